/-
  THE WALK OF GraphMore: the call gives true. Conditions: each theorem's own.
-/
import Derived.Test.YtadgnafafdfioaaDoorGaw
import Derived.Test.YtadgnafafdfioaaDoorGj
import Derived.Maps.AppendAt
set_option pp.deepTerms true
set_option pp.maxSteps 1000000
namespace Go.Proofs.YtadgnafafdfioaaDoor.Gr
open Go.Proofs.YtadgnafafdfioaaDoor.Rd
set_option maxRecDepth 100000
open Go.RowKit
set_option linter.unusedVariables false
set_option linter.unusedSimpArgs false

theorem nl_one {w : World} {b : Nat} {op name K : ByteArray} {A B n : Int} {zs : List Int} {data : List ByteArray} {sc dc : Nat} {sa da : Option Addr} {t : TypeId} (hb : w.heap[b]? = some (.cells #[.string op, .int .i64 A, .int .i64 B, .string name, .slice sa zs.length sc, .string K, .int .i64 n, .slice da data.length dc] t (0, 0))) (hS : Sp.Sl w sa zs) (hD : Row w da (txts data)) : Nl w (some ⟨b, 0, none⟩) [⟨op, A, B, name, zs, K, n, data⟩] := by
  intro i hi
  have h' : i < 1 := hi
  have : i = 0 := by omega
  subst this
  refine ⟨b, 0, ncl ⟨op, A, B, name, zs, K, n, data⟩ sa sc da dc, rfl, ⟨sa, sc, da, dc, rfl, hS, hD⟩, fun j hj => ?_⟩
  simp only [World.cell?, hb, Nat.zero_mul, Nat.zero_add, Option.bind_some]
  have : j = 0 ∨ j = 1 ∨ j = 2 ∨ j = 3 ∨ j = 4 ∨ j = 5 ∨ j = 6 ∨ j = 7 := by omega
  rcases this with rfl | rfl | rfl | rfl | rfl | rfl | rfl | rfl <;> rfl
theorem sml_one {n : Nd} : sml [n] = sma n := by unfold sml; simp
theorem nb_snoc {l : List Nd} {x : Nd} (hs : sml l = true) (hx : Nb x) : ∀ i, i < (l ++ [x]).length → Nb ((l ++ [x]).getD i zn) := fun j hj => by
  rw [List.length_append, List.length_singleton] at hj
  by_cases he : j < l.length
  · rw [List.getD_eq_getElem?_getD, List.getElem?_append_left he, ← List.getD_eq_getElem?_getD]
    exact sma_nb (sml_at hs he)
  · have e : j = l.length := by omega
    subst e
    rw [List.getD_eq_getElem?_getD, List.getElem?_append_right (Nat.le_refl _), Nat.sub_self]
    exact hx
set_option maxHeartbeats 16000000 in
theorem graphMore_ok (l : List Nd) (op name K : ByteArray) (A B n : Int) (zs : List Int) (data : List ByteArray) (c sc dc : Nat) (loss : Int) (ao sa da : Option Addr) (aF aZ : Addr) (w : World) (hE : Er w aF aZ) (hl : Nl w ao l) (hc : l.length ≤ c) (hcm : c ≤ maxLen) (hS : Sp.Sl w sa zs) (hD : Row w da (txts data)) :
    Calls Tryd.prog 5 #[.agg #[.slice ao l.length c, .int .i64 loss], .agg #[.string op, .int .i64 A, .int .i64 B, .string name, .slice sa zs.length sc, .string K, .int .i64 n, .slice da data.length dc]] w fun e w' => e = .returned (.bool true) ∧ Below w.heap.size w w' := by
  obtain ⟨G, hG⟩ : ∃ G, w.heap.size = G := ⟨_, rfl⟩
  have HA : Hid (∀ v, Below w.heap.size w v → Calls Tryd.prog 8 #[] v fun e w' => e = .returned (.bool true) ∧ Below v.heap.size v w') := fun v hv => awake_any aF aZ v (hE.below hv)
  have HS1 : Hid (∀ v, Below w.heap.size w v → Calls Tryd.prog 6 #[.agg #[.slice ao l.length c, .int .i64 loss]] v fun e w' => e = .returned (.bool (sml l)) ∧ Below v.heap.size v w') := fun v hv => Small_any l ao c loss v (hl.below hv)
  have HS2 : Hid (∀ v b t, Below w.heap.size w v → v.heap[b]? = some (.cells #[.string op, .int .i64 A, .int .i64 B, .string name, .slice sa zs.length sc, .string K, .int .i64 n, .slice da data.length dc] t (0, 0)) → Calls Tryd.prog 6 #[.agg #[.slice (some ⟨b, 0, none⟩) 1 1, .int .i64 0]] v fun e w' => e = .returned (.bool (sma ⟨op, A, B, name, zs, K, n, data⟩)) ∧ Below v.heap.size v w') := fun v b t hv hb => by
    have := Small_any [⟨op, A, B, name, zs, K, n, data⟩] (some ⟨b, 0, none⟩) 1 0 v (nl_one hb (sl_below hS hv) (Row.below hD hv))
    rw [sml_one] at this
    exact this
  have HR2 : Hid (sml l = true → ∀ v, Below w.heap.size w v → Calls Tryd.prog 7 #[.agg #[.slice ao l.length c, .int .i64 loss]] v fun e w' => e = .returned (.bool (grt l loss)) ∧ Below v.heap.size v w') := fun hs v hv => Right_any l ao c loss aF aZ v (hE.below hv) (hl.below hv) hc hcm (fun i hi => sma_nb (sml_at hs hi))
  have HI : Hid (grt l loss = true → sma ⟨op, A, B, name, zs, K, n, data⟩ = true → ∀ v, Below w.heap.size w v → Calls Tryd.prog 9 #[.slice ao l.length c, .agg #[.string op, .int .i64 A, .int .i64 B, .string name, .slice sa zs.length sc, .string K, .int .i64 n, .slice da data.length dc]] v fun e w' => Shi w' v.heap.size (shp l ⟨op, A, B, name, zs, K, n, data⟩) e ∧ Below v.heap.size v w') := fun hg hs v hv => Infer_any l ⟨op, A, B, name, zs, K, n, data⟩ sc dc c sa da ao aF aZ v (hE.below hv) (hl.below hv) (sl_below hS hv) (Row.below hD hv) (sma_nb hs) (fun i hi => rgt_at (grt_iff.1 hg).2.2.2.2 hi)
  have HRg : Hid (∀ s, shp l ⟨op, A, B, name, zs, K, n, data⟩ = some s → s.length ≤ 4) := fun s h => (shp_rgt h).1
  have HL : Hid (sml l = true → grt l loss = true → ∃ b off us, ao = some ⟨b, off, none⟩ ∧ Cp w us l ∧ l.length ≤ 40 ∧ ∀ v, Below w.heap.size w v → ∀ j u, us[j]? = some u → v.cell? ((⟨b, off, none⟩ : Addr).add j) = some u) := fun hs hg => by
    have h1 := (grt_iff.1 hg).1
    obtain ⟨b, off, _, e, _⟩ := hl 0 (by omega)
    subst e
    obtain ⟨us, u1, u2⟩ := Cp.ofNl hl
    refine ⟨b, off, us, rfl, u1, sml_len hs, fun v hv j u hu => ?_⟩
    rw [row_add]
    have := u2 j u hu
    rw [row_add] at this
    exact cell_below hv this
  have HOk : Hid (sml l = true → sma ⟨op, A, B, name, zs, K, n, data⟩ = true → grt l loss = true → name.size = 0 → ∀ s, shp l ⟨op, A, B, name, zs, K, n, data⟩ = some s → ∀ v a k, Below w.heap.size w v → Nl v a (l ++ [⟨op, A, B, name, s, K, n, data⟩]) → l.length + 1 ≤ k → k ≤ maxLen →
      Calls Tryd.prog 7 #[.agg #[.slice a (l.length + 1) k, .int .i64 loss]] v fun e w' => e = .returned (.bool true) ∧ Below v.heap.size v w') := fun hs hx hg hn s hsh v a k hv hnl hk hkm => by
    have hb := sma_nb hx
    have h4 := (shp_rgt hsh).1
    have := Right_any _ a k loss aF aZ v (hE.below hv) hnl (by simpa using hk) hkm (nb_snoc hs ⟨by show s.length ≤ 1000; omega, hb.2.1, hb.2.2.1, hb.2.2.2.1, hb.2.2.2.2⟩)
    rw [grt_more (n := ⟨op, A, B, name, zs, K, n, data⟩) hg (by have := sml_len hs; omega) hsh hn, List.length_append] at this
    exact this
  have HNo : Hid (sml l = true → sma ⟨op, A, B, name, zs, K, n, data⟩ = true → ∀ s, s.length ≤ 4 → ∀ v a k, Below w.heap.size w v → Nl v a (l ++ [⟨op, A, B, name, s ++ [65], K, n, data⟩]) → l.length + 1 ≤ k → k ≤ maxLen →
      Calls Tryd.prog 7 #[.agg #[.slice a (l.length + 1) k, .int .i64 loss]] v fun e w' => e = .returned (.bool false) ∧ Below v.heap.size v w') := fun hs hx s h4 v a k hv hnl hk hkm => by
    have hb := sma_nb hx
    have := Right_any _ a k loss aF aZ v (hE.below hv) hnl (by simpa using hk) hkm (nb_snoc hs ⟨by show (s ++ [65]).length ≤ 1000; simp; omega, hb.2.1, hb.2.2.1, hb.2.2.2.1, hb.2.2.2.2⟩)
    rw [grt_wrong (n := ⟨op, A, B, name, zs, K, n, data⟩), List.length_append] at this
    exact this
  have HSD : Hid (Row w da (txts data)) := hD
  clear hE hl hS hD hcm
  obtain ⟨sm, hsm⟩ : ∃ b, sml l = b := ⟨_, rfl⟩
  obtain ⟨sn, hsn⟩ : ∃ b, sma ⟨op, A, B, name, zs, K, n, data⟩ = b := ⟨_, rfl⟩
  obtain ⟨gr, hgr⟩ : ∃ b, grt l loss = b := ⟨_, rfl⟩
  obtain ⟨so, hso⟩ : ∃ b, shp l ⟨op, A, B, name, zs, K, n, data⟩ = b := ⟨_, rfl⟩
  simp only [hsm, hsn, hgr, hso] at HS1 HS2 HR2 HI HRg HL HOk HNo
  clear hsm hsn hgr hso
  obtain ⟨ll, hll⟩ : ∃ m, l.length = m := ⟨_, rfl⟩
  obtain ⟨zl, hzl⟩ : ∃ m, zs.length = m := ⟨_, rfl⟩
  obtain ⟨dl, hdl⟩ : ∃ m, data.length = m := ⟨_, rfl⟩
  have HLl : Hid _ := hll
  have HDl : Hid _ := hdl
  simp only [hll, hzl, hdl] at HS1 HS2 HR2 HI HL HOk HNo hc ⊢
  clear hll hzl hdl
  have HW : Hid (∀ o1 o2, Below w.heap.size w ((w.alloc o1).alloc o2)) := fun o1 o2 => bl_alloc (bl_alloc (Below.refl _ _) o1) o2
  have hC : ∀ v, Below (G + 2) ((w.alloc (.cells #[.slice ao ll c, .int .i64 loss] 24)).alloc (.cells #[.string op, .int .i64 A, .int .i64 B, .string name, .slice sa zl sc, .string K, .int .i64 n, .slice da dl dc] 30)) v → v.cell? ⟨G, 0, none⟩ = some (.slice ao ll c) ∧ v.cell? ⟨G, 1, none⟩ = some (.int .i64 loss) ∧ v.heap[G + 1]? = some (.cells #[.string op, .int .i64 A, .int .i64 B, .string name, .slice sa zl sc, .string K, .int .i64 n, .slice da dl dc] 30 (0, 0)) ∧ v.heap[G]? = some (.cells #[.slice ao ll c, .int .i64 loss] 24 (0, 0)) := fun v hv => by
    have e1 : (w.alloc (.cells #[.slice ao ll c, .int .i64 loss] 24)).heap.size = G + 1 := by rw [← hG]; simp
    have b0 := heap_alloc_new w (.cells #[.slice ao ll c, .int .i64 loss] 24)
    rw [hG] at b0
    have b1 := heap_alloc_new (w.alloc (.cells #[.slice ao ll c, .int .i64 loss] 24)) (.cells #[.string op, .int .i64 A, .int .i64 B, .string name, .slice sa zl sc, .string K, .int .i64 n, .slice da dl dc] 30)
    rw [e1] at b1
    have b0' : ((w.alloc (.cells #[.slice ao ll c, .int .i64 loss] 24)).alloc (.cells #[.string op, .int .i64 A, .int .i64 B, .string name, .slice sa zl sc, .string K, .int .i64 n, .slice da dl dc] 30)).heap[G]? = some (.cells #[.slice ao ll c, .int .i64 loss] 24 (0, 0)) := by
      rw [(bl_alloc (Below.refl (w.alloc (.cells #[.slice ao ll c, .int .i64 loss] 24)).heap.size _) (.cells #[.string op, .int .i64 A, .int .i64 B, .string name, .slice sa zl sc, .string K, .int .i64 n, .slice da dl dc] 30)).block G (by omega)]
      exact b0
    have f0 : v.heap[G]? = some (.cells #[.slice ao ll c, .int .i64 loss] 24 (0, 0)) := by rw [hv.block G (by omega)]; exact b0'
    exact ⟨by simp [World.cell?, f0], by simp [World.cell?, f0], by rw [hv.block (G + 1) (by omega)]; exact b1, f0⟩
  have HC : Hid _ := hC
  have hg2 : ((w.alloc (.cells #[.slice ao ll c, .int .i64 loss] 24)).alloc (.cells #[.string op, .int .i64 A, .int .i64 B, .string name, .slice sa zl sc, .string K, .int .i64 n, .slice da dl dc] 30)).heap.size = G + 2 := by rw [← hG]; simp
  have HG2 : Hid _ := hg2
  clear hg2
  have HGG : Hid _ := hG
  clear hC
  go_enter Tryd.func5, Tryd.ntmps5
  go_wp2_with fail
  refine (HS1.out _ (HW.out _ _)).mono ?_
  rintro e w2 ⟨rfl, hx2⟩
  have hh2 : Below (G + 2) ((w.alloc (.cells #[.slice ao ll c, .int .i64 loss] 24)).alloc (.cells #[.string op, .int .i64 A, .int .i64 B, .string name, .slice sa zl sc, .string K, .int .i64 n, .slice da dl dc] 30)) w2 := hx2.mono (by rw [HG2.out]; exact Nat.le_refl _)
  have HW2 : Hid _ := hh2
  have HB2 : Hid (Below w.heap.size w w2) := (HW.out _ _).trans (hh2.mono (by rw [HGG.out]; omega))
  have HX2 : Hid _ := hx2
  clear hh2 hx2
  cases sm with
  | false =>
    go_wp2_with fail
    refine (HA.out _ HB2.out).mono ?_
    rintro e w3 ⟨rfl, hx3⟩
    have HB3 : Hid _ := HB2.out.trans (hx3.mono HB2.out.size)
    clear hx3
    go_wp2
    go_ret
    exact ⟨rfl, HB3.out⟩
  | true =>
    obtain ⟨g0, g1, hP, -⟩ := HC.out w2 HW2.out
    have p0 : w2.cell? ⟨G + 1, 0, none⟩ = some (.string op) := by simp [World.cell?, hP]
    have p1 : w2.cell? ⟨G + 1, 1, none⟩ = some (.int .i64 A) := by simp [World.cell?, hP]
    have p2 : w2.cell? ⟨G + 1, 2, none⟩ = some (.int .i64 B) := by simp [World.cell?, hP]
    have p3 : w2.cell? ⟨G + 1, 3, none⟩ = some (.string name) := by simp [World.cell?, hP]
    have p4 : w2.cell? ⟨G + 1, 4, none⟩ = some (.slice sa zl sc) := by simp [World.cell?, hP]
    have p5 : w2.cell? ⟨G + 1, 5, none⟩ = some (.string K) := by simp [World.cell?, hP]
    have p6 : w2.cell? ⟨G + 1, 6, none⟩ = some (.int .i64 n) := by simp [World.cell?, hP]
    have p7 : w2.cell? ⟨G + 1, 7, none⟩ = some (.slice da dl dc) := by simp [World.cell?, hP]
    have hlt2 : G + 2 ≤ w2.heap.size := by have := HW2.out.size; rw [HG2.out] at this; exact this
    have hn2 := heap_alloc_new w2 (.cells #[.string op, .int .i64 A, .int .i64 B, .string name, .slice sa zl sc, .string K, .int .i64 n, .slice da dl dc] 30)
    have hs2 := HS2.out (w2.alloc (.cells #[.string op, .int .i64 A, .int .i64 B, .string name, .slice sa zl sc, .string K, .int .i64 n, .slice da dl dc] 30)) w2.heap.size 30 (HB2.out.alloc HB2.out.size _) hn2
    go_wp2_with fail
    refine hs2.mono ?_
    rintro e w3 ⟨rfl, hx3⟩
    have hh3 : Below (G + 2) ((w.alloc (.cells #[.slice ao ll c, .int .i64 loss] 24)).alloc (.cells #[.string op, .int .i64 A, .int .i64 B, .string name, .slice sa zl sc, .string K, .int .i64 n, .slice da dl dc] 30)) w3 := (HW2.out.alloc hlt2 _).trans (hx3.mono (by simp; omega))
    have HW3 : Hid _ := hh3
    have HB3 : Hid (Below w.heap.size w w3) := (HW.out _ _).trans (hh3.mono (by rw [HGG.out]; omega))
    have HX3 : Hid _ := hx3
    clear hh3 hx3
    clear g0 g1 hP p0 p1 p2 p3 p4 p5 p6 p7
    clear hlt2 hn2 hs2
    cases sn with
    | false =>
      go_wp2_with fail
      refine (HA.out _ HB3.out).mono ?_
      rintro e w4 ⟨rfl, hx4⟩
      have HB4 : Hid _ := HB3.out.trans (hx4.mono HB3.out.size)
      clear hx4
      go_wp2
      go_ret
      exact ⟨rfl, HB4.out⟩
    | true =>
      obtain ⟨g0, g1, hP, -⟩ := HC.out w3 HW3.out
      have p0 : w3.cell? ⟨G + 1, 0, none⟩ = some (.string op) := by simp [World.cell?, hP]
      have p1 : w3.cell? ⟨G + 1, 1, none⟩ = some (.int .i64 A) := by simp [World.cell?, hP]
      have p2 : w3.cell? ⟨G + 1, 2, none⟩ = some (.int .i64 B) := by simp [World.cell?, hP]
      have p3 : w3.cell? ⟨G + 1, 3, none⟩ = some (.string name) := by simp [World.cell?, hP]
      have p4 : w3.cell? ⟨G + 1, 4, none⟩ = some (.slice sa zl sc) := by simp [World.cell?, hP]
      have p5 : w3.cell? ⟨G + 1, 5, none⟩ = some (.string K) := by simp [World.cell?, hP]
      have p6 : w3.cell? ⟨G + 1, 6, none⟩ = some (.int .i64 n) := by simp [World.cell?, hP]
      have p7 : w3.cell? ⟨G + 1, 7, none⟩ = some (.slice da dl dc) := by simp [World.cell?, hP]
      have hlt3 : G + 2 ≤ w3.heap.size := by have := HW3.out.size; rw [HG2.out] at this; exact this
      by_cases h39 : 39 < ll
      ·
        go_wp2_with fail
        refine (HA.out _ HB3.out).mono ?_
        rintro e w4 ⟨rfl, hx4⟩
        have HB4 : Hid _ := HB3.out.trans (hx4.mono HB3.out.size)
        clear hx4
        go_wp2
        go_ret
        exact ⟨rfl, HB4.out⟩
      have x39 : decide ((39 : Int) < (ll : Int)) = false := decide_eq_false (by omega)
      go_wp2_with fail
      refine (HR2.out (by first | exact rfl | trivial) _ HB3.out).mono ?_
      rintro e w4 ⟨rfl, hx4⟩
      have hh4 : Below (G + 2) ((w.alloc (.cells #[.slice ao ll c, .int .i64 loss] 24)).alloc (.cells #[.string op, .int .i64 A, .int .i64 B, .string name, .slice sa zl sc, .string K, .int .i64 n, .slice da dl dc] 30)) w4 := HW3.out.trans (hx4.mono hlt3)
      have HW4 : Hid _ := hh4
      have HB4 : Hid (Below w.heap.size w w4) := (HW.out _ _).trans (hh4.mono (by rw [HGG.out]; omega))
      have HX4 : Hid _ := hx4
      clear hh4 hx4
      clear g0 g1 hP p0 p1 p2 p3 p4 p5 p6 p7
      clear hlt3
      cases gr with
      | false =>
        go_wp2_with fail
        refine (HA.out _ HB4.out).mono ?_
        rintro e w5 ⟨rfl, hx5⟩
        have HB5 : Hid _ := HB4.out.trans (hx5.mono HB4.out.size)
        clear hx5
        go_wp2
        go_ret
        exact ⟨rfl, HB5.out⟩
      | true =>
        obtain ⟨g0, g1, hP, -⟩ := HC.out w4 HW4.out
        have p0 : w4.cell? ⟨G + 1, 0, none⟩ = some (.string op) := by simp [World.cell?, hP]
        have p1 : w4.cell? ⟨G + 1, 1, none⟩ = some (.int .i64 A) := by simp [World.cell?, hP]
        have p2 : w4.cell? ⟨G + 1, 2, none⟩ = some (.int .i64 B) := by simp [World.cell?, hP]
        have p3 : w4.cell? ⟨G + 1, 3, none⟩ = some (.string name) := by simp [World.cell?, hP]
        have p4 : w4.cell? ⟨G + 1, 4, none⟩ = some (.slice sa zl sc) := by simp [World.cell?, hP]
        have p5 : w4.cell? ⟨G + 1, 5, none⟩ = some (.string K) := by simp [World.cell?, hP]
        have p6 : w4.cell? ⟨G + 1, 6, none⟩ = some (.int .i64 n) := by simp [World.cell?, hP]
        have p7 : w4.cell? ⟨G + 1, 7, none⟩ = some (.slice da dl dc) := by simp [World.cell?, hP]
        have hlt4 : G + 2 ≤ w4.heap.size := by have := HW4.out.size; rw [HG2.out] at this; exact this
        by_cases hnm : ¬ name.size = 0
        ·
          have hem : name.toList.isEmpty = false := (emp_dec name).trans (decide_eq_false hnm)
          go_wp2_with fail
          refine (HA.out _ HB4.out).mono ?_
          rintro e w5 ⟨rfl, hx5⟩
          have HB5 : Hid _ := HB4.out.trans (hx5.mono HB4.out.size)
          clear hx5
          go_wp2
          go_ret
          exact ⟨rfl, HB5.out⟩
        have hnm0 : name.size = 0 := by omega
        have hem : name.toList.isEmpty = true := (emp_dec name).trans (decide_eq_true hnm0)
        have HI4 := HI.out (by first | exact rfl | trivial) (by first | exact rfl | trivial)
        have HI5 : Hid _ := HI4
        clear HI4 hnm
        cases so with
        | none =>
          go_wp2_with fail
          refine (HI5.out _ HB4.out).mono ?_
          rintro e w5 ⟨rfl, hx5⟩
          have hh5 : Below (G + 2) ((w.alloc (.cells #[.slice ao ll c, .int .i64 loss] 24)).alloc (.cells #[.string op, .int .i64 A, .int .i64 B, .string name, .slice sa zl sc, .string K, .int .i64 n, .slice da dl dc] 30)) w5 := HW4.out.trans (hx5.mono hlt4)
          have HW5 : Hid _ := hh5
          have HB5 : Hid (Below w.heap.size w w5) := (HW.out _ _).trans (hh5.mono (by rw [HGG.out]; omega))
          have HX5 : Hid _ := hx5
          clear hh5 hx5
          clear g0 g1 hP p0 p1 p2 p3 p4 p5 p6 p7
          go_wp2_with fail
          refine (HA.out _ HB5.out).mono ?_
          rintro e w6 ⟨rfl, hx6⟩
          have HB6 : Hid _ := HB5.out.trans (hx6.mono HB5.out.size)
          clear hx6
          go_wp2
          go_ret
          exact ⟨rfl, HB6.out⟩
        | some s =>
          have hs4 := HRg.out s rfl
          go_wp2_with fail
          refine (HI5.out _ HB4.out).mono ?_
          rintro e w5 ⟨⟨a5, c5, rfl, hs5, ho5⟩, hx5⟩
          have hh5 : Below (G + 2) ((w.alloc (.cells #[.slice ao ll c, .int .i64 loss] 24)).alloc (.cells #[.string op, .int .i64 A, .int .i64 B, .string name, .slice sa zl sc, .string K, .int .i64 n, .slice da dl dc] 30)) w5 := HW4.out.trans (hx5.mono hlt4)
          have HW5 : Hid _ := hh5
          have HB5 : Hid (Below w.heap.size w w5) := (HW.out _ _).trans (hh5.mono (by rw [HGG.out]; omega))
          have HX5 : Hid _ := hx5
          clear hh5 hx5
          clear g0 g1 hP p0 p1 p2 p3 p4 p5 p6 p7
          have HOk' := HOk.out (by first | exact rfl | trivial) (by first | exact rfl | trivial) (by first | exact rfl | trivial) hnm0 s rfl
          have HNo' := HNo.out (by first | exact rfl | trivial) (by first | exact rfl | trivial) s hs4
          obtain ⟨b, off, us, rfl, hcp, h40, hcells⟩ := HL.out (by first | exact rfl | trivial) (by first | exact rfl | trivial)
          have HOk2 : Hid _ := HOk'
          have HNo2 : Hid _ := HNo'
          have HCp : Hid (Cp w us l) := hcp
          have HCe : Hid _ := hcells
          have HO5 : Hid (w5.ownsRow w4.heap.size 3 1 (.slice a5 s.length c5) s.length (Tn.nums s)) := ho5
          clear HOk' HNo' hcp hcells hs5 ho5 HOk HNo HL HI5 HI HR2 HS1 HS2 HRg hem hnm0 hlt4
          obtain ⟨-, -, -, hG5⟩ := HC.out w5 HW5.out
          obtain ⟨g0, g1, hP, -⟩ := HC.out w5 HW5.out
          have p0 : w5.cell? ⟨G + 1, 0, none⟩ = some (.string op) := by simp [World.cell?, hP]
          have p1 : w5.cell? ⟨G + 1, 1, none⟩ = some (.int .i64 A) := by simp [World.cell?, hP]
          have p2 : w5.cell? ⟨G + 1, 2, none⟩ = some (.int .i64 B) := by simp [World.cell?, hP]
          have p3 : w5.cell? ⟨G + 1, 3, none⟩ = some (.string name) := by simp [World.cell?, hP]
          have p4 : w5.cell? ⟨G + 1, 4, none⟩ = some (.slice sa zl sc) := by simp [World.cell?, hP]
          have p5 : w5.cell? ⟨G + 1, 5, none⟩ = some (.string K) := by simp [World.cell?, hP]
          have p6 : w5.cell? ⟨G + 1, 6, none⟩ = some (.int .i64 n) := by simp [World.cell?, hP]
          have p7 : w5.cell? ⟨G + 1, 7, none⟩ = some (.slice da dl dc) := by simp [World.cell?, hP]
          have hfz5 : w5.frozen? ⟨G + 1, 4, none⟩ = false := by simp [World.frozen?, hP]
          go_upto_region 7 with fail
          clear g0 g1 p0 p1 p2 p3 p4 p5 p6 p7 hfz5
          have hgg : w.heap.size ≤ G + 1 := by have := HGG.out; omega
          have hN6 : (w5.setCell ⟨G + 1, 4, none⟩ (.slice a5 s.length c5)).heap[G + 1]? = some (.cells #[.string op, .int .i64 A, .int .i64 B, .string name, .slice a5 s.length c5, .string K, .int .i64 n, .slice da dl dc] 30 (0, 0)) := heap_setCell_same w5 (G + 1) 4 _ 30 (.slice a5 s.length c5) hP
          have hG6 : (w5.setCell ⟨G + 1, 4, none⟩ (.slice a5 s.length c5)).heap[G]? = some (.cells #[.slice (some ⟨b, off, none⟩) ll c, .int .i64 loss] 24 (0, 0)) := by
            rw [heap_setCell_other w5 ⟨G + 1, 4, none⟩ G _ (by show G ≠ G + 1; omega)]; exact hG5
          have hg4 : G + 1 < w4.heap.size := by have := HW4.out.size; rw [HG2.out] at this; omega
          have HO6 : Hid ((w5.setCell ⟨G + 1, 4, none⟩ (.slice a5 s.length c5)).ownsRow w4.heap.size 3 1 (.slice a5 s.length c5) s.length (Tn.nums s)) := own_set HO5.out (p := ⟨G + 1, 4, none⟩) hg4 _
          have HS6 : Hid (Sp.Sl (w5.setCell ⟨G + 1, 4, none⟩ (.slice a5 s.length c5)) a5 s) := own_sl HO6.out
          have HG4 : Hid _ := hg4
          have HB6 : Hid (Below w.heap.size w (w5.setCell ⟨G + 1, 4, none⟩ (.slice a5 s.length c5))) := Below.setCell HB5.out hgg _
          clear hP hG5 HO5 hg4
          generalize w5.setCell ⟨G + 1, 4, none⟩ (.slice a5 s.length c5) = w6 at *
          have HG6 : Hid (∀ v, Below w6.heap.size w6 v → v.cell? ⟨G, 0, none⟩ = some (.slice (some ⟨b, off, none⟩) ll c) ∧ v.cell? ⟨G, 1, none⟩ = some (.int .i64 loss) ∧ v.heap[G + 1]? = some (.cells #[.string op, .int .i64 A, .int .i64 B, .string name, .slice a5 s.length c5, .string K, .int .i64 n, .slice da dl dc] 30 (0, 0))) := fun v hv => by
            have f0 : v.heap[G]? = some (.cells #[.slice (some ⟨b, off, none⟩) ll c, .int .i64 loss] 24 (0, 0)) := kp_below hv hG6
            exact ⟨by simp [World.cell?, f0], by simp [World.cell?, f0], kp_below hv hN6⟩
          have HGb : Hid (∀ v, Below w6.heap.size w6 v → v.heap[G]? = some (.cells #[.slice (some ⟨b, off, none⟩) ll c, .int .i64 loss] 24 (0, 0))) := fun v hv => kp_below hv hG6
          have HG7 : Hid (G + 1 < w6.heap.size) := (Array.getElem?_eq_some_iff.1 hN6).1
          have HgG : Hid (∀ v, Below w6.heap.size w6 v → G < v.heap.size) := fun v hv => Nat.lt_of_lt_of_le (Array.getElem?_eq_some_iff.1 hG6).1 hv.size
          have HNd : Hid (∀ v, Below w6.heap.size w6 v → Nc v [.string op, .int .i64 A, .int .i64 B, .string name, .slice a5 s.length c5, .string K, .int .i64 n, .slice da dl dc] ⟨op, A, B, name, s, K, n, data⟩) := fun v hv => by
            have h : Nc v [.string op, .int .i64 A, .int .i64 B, .string name, .slice a5 s.length c5, .string K, .int .i64 n, .slice da data.length dc] ⟨op, A, B, name, s, K, n, data⟩ := ⟨a5, c5, da, dc, rfl, sl_below HS6.out hv, Row.below HSD.out (HB6.out.trans (hv.mono HB6.out.size))⟩
            rwa [HDl.out] at h
          have HBw : Hid (∀ v, Below w6.heap.size w6 v → Below w.heap.size w v) := fun v hv => HB6.out.trans (hv.mono HB6.out.size)
          have HUo : Hid _ := HCp.out.one
          obtain ⟨i0, hi, hz0, hz1, hz2⟩ := info_parts inf28
          clear hG6 hN6 hgg HW5 HW4 HW3 HW2 HX5 HX4 HX3 HX2 HB2 HB3 HB4 HB5 HC HG2
          have hgB : G < w6.heap.size := HgG.out w6 (Below.refl _ _)
          have hul5 : us.length = ll * 8 := by rw [HCp.out.1, HLl.out]
          refine region_bar_inv 11 (by kernel_rfl) (by kernel_rfl) (fun L a v => ∃ s0 s1 s2 s3 s4 s5 s6 s7 s8 s9 s10, a = ⟨#[.agg #[.slice (some ⟨b, off, none⟩) ll c, .int .i64 loss], .agg #[.string op, .int .i64 A, .int .i64 B, .string name, .slice sa zl sc, .string K, .int .i64 n, .slice da dl dc], .pointer (some ⟨G, 0, none⟩), .pointer (some ⟨G + 1, 0, none⟩), .bool false, .slice a5 s.length c5, .bool true, s10, undef, .agg #[.slice (some ⟨b, off, none⟩) ll c, .int .i64 loss], .bool true, .bool false, .bool false, .agg #[.string op, .int .i64 A, .int .i64 B, .string name, .slice sa zl sc, .string K, .int .i64 n, .slice da dl dc], .slice (some ⟨w2.heap.size, 0, none⟩) 1 1, .agg #[.slice (some ⟨w2.heap.size, 0, none⟩) 1 1, .int .i64 0], .bool true, .bool false, .bool false, .bool false, .pointer (some ⟨G, 0, none⟩), .slice (some ⟨b, off, none⟩) ll c, .int .i64 (ll : Int), .bool false, .bool false, .bool false, .agg #[.slice (some ⟨b, off, none⟩) ll c, .int .i64 loss], .bool true, .bool false, .bool false, .bool false, .pointer (some ⟨G + 1, 3, none⟩), .string name, .bool false, .bool false, undef, .tuple #[.slice a5 s.length c5, .bool true], .pointer (some ⟨G, 0, none⟩), .slice (some ⟨b, off, none⟩) ll c, .agg #[.string op, .int .i64 A, .int .i64 B, .string name, .slice sa zl sc, .string K, .int .i64 n, .slice da dl dc], .tuple #[.slice a5 s.length c5, .bool true], .slice a5 s.length c5, .bool true, .bool true, .bool false, undef, undef, undef, undef, undef, undef, .slice a5 s.length c5, .pointer (some ⟨G + 1, 4, none⟩), s0, s1, s2, s3, s4, s5, s6, s7, s8, s9, undef, undef, undef, undef, undef, undef, undef, undef, undef, undef, undef, undef, undef, undef, undef, undef, undef, undef, undef, undef, undef, undef, undef, undef, undef, undef], []⟩ ∧ Aq w6 w6.heap.size G (.slice (some ⟨b, off, none⟩) ll c) us ll [.string op, .int .i64 A, .int .i64 B, .string name, .slice a5 s.length c5, .string K, .int .i64 n, .slice da dl dc] loss L v s0 s1 s2 s3 s4 s5 s6 s7 s8 s9 s10) ?_ ?_ ?_
          · exact ⟨_, _, _, _, _, _, _, _, _, _, _, rfl, Aq.start _ rfl (by simp) _ (bl_drew (Below.refl _ _)) _ _ _ _ _ _ _ _ _ _ _⟩
          · intro L a v k hL9 hlt hI hrd
            obtain ⟨s0, s1, s2, s3, s4, s5, s6, s7, s8, s9, s10, rfl, hP⟩ := hI
            obtain ⟨hu, o9, ho, haf⟩ := mem_ready.1 hrd
            replace hu := off_of hu
            have hbv := hP.bl
            have hsz := hbv.size
            obtain ⟨y0, y1, yN⟩ := HG6.out v hbv
            rcases (by omega : k = 0 ∨ k = 1 ∨ k = 2 ∨ k = 3 ∨ k = 4 ∨ k = 5 ∨ k = 6 ∨ k = 7 ∨ k = 8 ∨ k = 9 ∨ k = 10) with rfl | rfl | rfl | rfl | rfl | rfl | rfl | rfl | rfl | rfl | rfl
            all_goals cases ho
            · have hP2 := hP.t0 (x := .slice (some ⟨v.heap.size, 0, none⟩) 0 0) (v' := v.alloc (.cells #[] 30)) ⟨_, rfl, hsz, fun _ => heap_alloc_new v _⟩ (bl_alloc (Below.refl _ _) _) hsz
              refine step_run rfl rfl ?_
              go_simp
              exact ⟨_, _, _, _, _, _, _, _, _, _, _, ⟨rfl, rfl, rfl, rfl, rfl, rfl, rfl, rfl, rfl, rfl, rfl⟩, hP2⟩
            · have hP2 := hP.t1
              refine step_run rfl rfl ?_
              go_simp
              exact ⟨_, _, _, _, _, _, _, _, _, _, _, ⟨rfl, rfl, rfl, rfl, rfl, rfl, rfl, rfl, rfl, rfl, rfl⟩, hP2⟩
            · have hP2 := hP.t2
              have e1 := (hP.h1 (haf { on := 1, ground := .data } (by simp) rfl)).symm
              subst e1
              refine step_run rfl rfl ?_
              go_simp
              exact ⟨_, _, _, _, _, _, _, _, _, _, _, ⟨rfl, rfl, rfl, rfl, rfl, rfl, rfl, rfl, rfl, rfl, rfl⟩, hP2⟩
            · have e2 := (hP.h2 (haf { on := 2, ground := .data } (by simp) rfl)).symm
              have hn6 : ¬ on L 6 := fun e => hu (hP.h6 e).1
              obtain ⟨g, e0, hg1, hg2⟩ := hP.h0 (haf { on := 0, ground := .data } (by simp) rfl) hn6
              replace e0 := e0.symm
              subst e0 e2
              have hg3 := hg2 hu
              refine step_run rfl rfl ?_
              have m2 : v.ownsRow g 30 8 (.slice (some ⟨g, 0, none⟩) 0 0) 0 [] := ⟨rfl, .inr ⟨g, 0, #[], rfl, Nat.le_refl _, hg3, Nat.le_refl _, Nat.zero_le _, rfl, rfl⟩⟩
              refine wp_append_own v (.tmp 53) (.tmp 55) 22 rfl g 30 i0 _ 8 120 Tryd.underlying22 hi hz0 hz1 hz2 rfl (by decide) (.slice (some ⟨g, 0, none⟩) 0 0) 0 [] rfl m2 ⟨b, off, none⟩ ll c us rfl hul5 (HCe.out v (HBw.out v hbv)) HUo.out (by unfold maxLen; omega) (by omega) (by have := (Array.getElem?_eq_some_iff.1 hg3).1; omega) (fun x v' ho' hg' hor => ?_)
              rw [Nat.zero_add, List.nil_append] at ho'
              have hP2 := hP.t3 (x := x) (v' := v') (Lx.own_mono ho' hg1) (hbv.trans (Below.grown (Below.refl _ _) hg' hsz (fun k h => by cases h; exact hg1))) (Kp.grown hg' (.inr rfl) hg3) hu
              exact ⟨_, _, _, _, _, _, _, _, _, _, _, rfl, hP2⟩
            · have hP2 := hP.t4
              have p0 : v.cell? ⟨G + 1, 0, none⟩ = some (.string op) := by simp [World.cell?, yN]
              have p1 : v.cell? ⟨G + 1, 1, none⟩ = some (.int .i64 A) := by simp [World.cell?, yN]
              have p2 : v.cell? ⟨G + 1, 2, none⟩ = some (.int .i64 B) := by simp [World.cell?, yN]
              have p3 : v.cell? ⟨G + 1, 3, none⟩ = some (.string name) := by simp [World.cell?, yN]
              have p4 : v.cell? ⟨G + 1, 4, none⟩ = some (.slice a5 s.length c5) := by simp [World.cell?, yN]
              have p5 : v.cell? ⟨G + 1, 5, none⟩ = some (.string K) := by simp [World.cell?, yN]
              have p6 : v.cell? ⟨G + 1, 6, none⟩ = some (.int .i64 n) := by simp [World.cell?, yN]
              have p7 : v.cell? ⟨G + 1, 7, none⟩ = some (.slice da dl dc) := by simp [World.cell?, yN]
              refine step_run rfl rfl ?_
              go_simp
              exact ⟨_, _, _, _, _, _, _, _, _, _, _, ⟨rfl, rfl, rfl, rfl, rfl, rfl, rfl, rfl, rfl, rfl, rfl⟩, hP2⟩
            · have e4 := (hP.h4 (haf { on := 4, ground := .data } (by simp) rfl)).symm
              subst e4
              have hP2 := hP.t5 (x := .slice (some ⟨v.heap.size, 0, none⟩) 1 1) (v' := v.alloc (.cells #[.string op, .int .i64 A, .int .i64 B, .string name, .slice a5 s.length c5, .string K, .int .i64 n, .slice da dl dc] 30)) ⟨_, rfl, heap_alloc_new v _⟩ (bl_alloc (Below.refl _ _) _) hsz
              refine step_run rfl rfl ?_
              go_simp
              exact ⟨_, _, _, _, _, _, _, _, _, _, _, ⟨rfl, rfl, rfl, rfl, rfl, rfl, rfl, rfl, rfl, rfl, rfl⟩, hP2⟩
            · have h3 := haf { on := 3, ground := .data } (by simp) rfl
              obtain ⟨g1, e5, hg1⟩ := hP.h5 (haf { on := 5, ground := .data } (by simp) rfl) hu
              have ho := hP.h3 h3 hu
              replace e5 := e5.symm
              subst e5
              obtain ⟨ax, cx, e3⟩ := own_slice8 ho
              subst e3
              refine step_run rfl rfl ?_
              have hnw : ∀ j u, ([.string op, .int .i64 A, .int .i64 B, .string name, .slice a5 s.length c5, .string K, .int .i64 n, .slice da dl dc] : List Value)[j]? = some u → v.cell? ((⟨g1, 0, none⟩ : Addr).add j) = some u := fun j u hu => by
                rw [row_add, Nat.zero_add]
                simp only [World.cell?, hg1]
                simpa using hu
              refine wp_append_own v (.tmp 56) (.tmp 58) 22 rfl w6.heap.size 30 i0 _ 8 120 Tryd.underlying22 hi hz0 hz1 hz2 rfl (by decide) (.slice ax ll cx) ll us rfl ho ⟨g1, 0, none⟩ 1 1 [.string op, .int .i64 A, .int .i64 B, .string name, .slice a5 s.length c5, .string K, .int .i64 n, .slice da dl dc] rfl rfl hnw (by intro u hu; simp only [List.mem_cons, List.not_mem_nil, or_false] at hu; rcases hu with rfl | rfl | rfl | rfl | rfl | rfl | rfl | rfl <;> rfl) (by unfold maxLen; omega) (by omega) hsz (fun x v' ho' hg' hor => ?_)
              have hP2 := hP.t6 (x := x) (v' := v') ho' (hbv.trans (Below.grown (Below.refl _ _) hg' hsz (fun k hk => (World.ownsRow.lt ho k hk).1))) (kp_own ho hg') hu h3
              exact ⟨_, _, _, _, _, _, _, _, _, _, _, rfl, hP2⟩
            · have hP2 := hP.t7
              refine step_run rfl rfl ?_
              go_simp
              exact ⟨_, _, _, _, _, _, _, _, _, _, _, ⟨rfl, rfl, rfl, rfl, rfl, rfl, rfl, rfl, rfl, rfl, rfl⟩, hP2⟩
            · have hP2 := hP.t8
              have e1 := (hP.h7 (haf { on := 7, ground := .data } (by simp) rfl)).symm
              subst e1
              refine step_run rfl rfl ?_
              go_simp
              exact ⟨_, _, _, _, _, _, _, _, _, _, _, ⟨rfl, rfl, rfl, rfl, rfl, rfl, rfl, rfl, rfl, rfl, rfl⟩, hP2⟩
            · have h6 := haf { on := 6, ground := .data } (by simp) rfl
              have e8 := (hP.h8 (haf { on := 8, ground := .data } (by simp) rfl)).symm
              have hP2 := hP.t9 h6
              subst e8
              obtain ⟨ax, cx, e3⟩ := own_slice8 (hP.h6 h6).2
              subst e3
              refine step_run rfl rfl ?_
              go_simp
              exact ⟨_, _, _, _, _, _, _, _, _, _, _, ⟨rfl, rfl, rfl, rfl, rfl, rfl, rfl, rfl, rfl, rfl, rfl⟩, hP2⟩
            · have hP2 := hP.t10 (x := .pointer (some ⟨v.heap.size, 0, none⟩)) (v' := v.alloc (.cells #[.slice none 0 0, .int .i64 0] 24)) ⟨_, rfl, hsz, heap_alloc_new v _⟩ (bl_alloc (Below.refl _ _) _) hsz
              refine step_run rfl rfl ?_
              go_simp
              exact ⟨_, _, _, _, _, _, _, _, _, _, _, ⟨rfl, rfl, rfl, rfl, rfl, rfl, rfl, rfl, rfl, rfl, rfl⟩, hP2⟩
          intro L a v hon hI
          obtain ⟨s0, s1, s2, s3, s4, s5, s6, s7, s8, s9, s10, rfl, hP⟩ := hI
          obtain ⟨-, ho⟩ := hP.h6 (hon 6 (by decide))
          obtain ⟨-, e9⟩ := hP.h9 (hon 9 (by decide))
          obtain ⟨gp, e10, hgp, hpl⟩ := hP.h10 (hon 10 (by decide))
          have hbv := hP.bl
          clear hP hon
          subst e9 e10
          obtain ⟨ax, cx, rfl⟩ := own_slice8 ho
          have hfzp : ∀ i, v.frozen? ⟨gp, i, none⟩ = false := fun i => by simp [World.frozen?, hpl]
          have c0 : v.cell? ⟨gp, 0, none⟩ = some (.slice none 0 0) := by simp [World.cell?, hpl]
          have hpl1 : (v.setCell ⟨gp, 0, none⟩ (.slice ax (ll + 1) cx)).heap[gp]? = some (.cells #[.slice ax (ll + 1) cx, .int .i64 0] 24 (0, 0)) := heap_setCell_same v gp 0 _ 24 _ hpl
          have c1 : (v.setCell ⟨gp, 0, none⟩ (.slice ax (ll + 1) cx)).cell? ⟨gp, 1, none⟩ = some (.int .i64 0) := by simp [World.cell?, hpl1]
          have hfz1 : (v.setCell ⟨gp, 0, none⟩ (.slice ax (ll + 1) cx)).frozen? ⟨gp, 1, none⟩ = false := by simp [World.frozen?, hpl1]
          have hpl2 : ((v.setCell ⟨gp, 0, none⟩ (.slice ax (ll + 1) cx)).setCell ⟨gp, 1, none⟩ (.int .i64 loss)).heap[gp]? = some (.cells #[.slice ax (ll + 1) cx, .int .i64 loss] 24 (0, 0)) := heap_setCell_same _ gp 1 _ 24 _ hpl1
          have ho2 := own_cell (own_cell ho hpl (fun c e => by cases e) 0 (.slice ax (ll + 1) cx)) hpl1 (fun c e => by cases e) 1 (.int .i64 loss)
          have hb2 : Below w6.heap.size w6 ((v.setCell ⟨gp, 0, none⟩ (.slice ax (ll + 1) cx)).setCell ⟨gp, 1, none⟩ (.int .i64 loss)) := Below.setCell (Below.setCell hbv hgp _) hgp _
          clear hpl hgB hul5
          refine any_one 11 _ (by kernel_rfl) rfl (fun K0 hK0 => ?_)
          go_simp
          refine hK0 _ _ ?_
          clear hK0 K0 hfzp c0 c1 hfz1 hpl1
          refine any_end (by kernel_rfl) ?_
          generalize (v.setCell ⟨gp, 0, none⟩ (.slice ax (ll + 1) cx)).setCell ⟨gp, 1, none⟩ (.int .i64 loss) = w7 at hpl2 ho2 hb2 ⊢
          clear ho hbv
          have HO7 : Hid (w7.ownsRow w6.heap.size 30 8 (.slice ax (ll + 1) cx) (ll + 1) (us ++ [.string op, .int .i64 A, .int .i64 B, .string name, .slice a5 s.length c5, .string K, .int .i64 n, .slice da dl dc])) := ho2
          have HB7 : Hid (Below w6.heap.size w6 w7) := hb2
          have HP7 : Hid (∀ v, Below w7.heap.size w7 v → v.heap[gp]? = some (.cells #[.slice ax (ll + 1) cx, .int .i64 loss] 24 (0, 0))) := fun v hv => kp_below hv hpl2
          have HGp : Hid (w6.heap.size ≤ gp) := hgp
          obtain ⟨j0, hj, hjz0, hjz1, hjz2⟩ := info_parts inf3g
          have m2 : (w7.alloc (.cells #[] 3)).ownsRow w7.heap.size 3 1 (.slice (some ⟨w7.heap.size, 0, none⟩) 0 0) 0 [] := World.ownsRow_made w7 #[] 0 (Nat.le_refl _) (by simp) (by simp)
          have hS7 : Sp.Sl (w7.alloc (.cells #[] 3)) a5 s := sl_below (sl_below HS6.out (HB7.out.mono (Nat.le_refl _))) (bl_alloc (Below.refl _ _) _)
          have hN5 : a5 = none → c5 = 0 := fun h => by
            obtain ⟨_, _, e, _, h1, _⟩ := Row.of_own HO6.out
            simp only [Value.slice.injEq, true_and] at e
            obtain ⟨rfl, rfl⟩ := e
            exact (h1 h).2
          clear hpl2 ho2 hb2 hgp
          go_wp2_with (first | (at_builtin; refine wpList_append_row _ _ 27 rfl w7.heap.size 3 j0 (.int .i64 0) 8 Tryd.underlying27 hj hjz0 hjz1 hjz2 rfl _ 0 [] rfl m2 a5 s.length c5 (Tn.nums s) rfl (Tn.nums_len s) (Tn.row_of_sl hS7) (Tn.nums_one s) hN5 (by unfold maxLen; omega) (by omega) (by simp) (by first | rfl | go_simp) ?_))
          intro x8 w8 hown8 hgrow8
          have hB8 : Below w7.heap.size w7 w8 := ((Below.refl _ _).alloc (Nat.le_refl _) _).grown hgrow8 (by simp) (fun k h => by simp [Value.ownBlock] at h; omega)
          have hown8' : w8.ownsRow w7.heap.size 3 1 x8 s.length (Tn.nums s) := by simpa using hown8
          have HB8 : Hid _ := hB8
          have hsz8 := hB8.size
          clear hown8 hgrow8 m2 hS7 hN5 hB8
          obtain ⟨a8, c8, rfl⟩ := own_slice1 hown8'
          go_wp2_with (first | (at_builtin; refine wpList_append_own_at _ rfl _ _ 27 rfl w7.heap.size 3 j0 _ 1 8 Tryd.underlying27 hj hjz0 hjz1 hjz2 rfl (by decide) _ s.length (Tn.nums s) rfl (hown8'.alloc _) ⟨w8.heap.size, 0, none⟩ 1 1 [.int .i64 65] rfl rfl (cell_one_new _ _ _) (by intro u hu; simp only [List.mem_singleton] at hu; subst hu; rfl) (by unfold maxLen; omega) (by omega) (by simp; omega) ?_))
          intro x9 w9 hown9 hgrow9 _ _
          have hB9 : Below w7.heap.size w7 w9 := (HB8.out.alloc hsz8 _).grown hgrow9 (by simp; omega) (fun k hk => (World.ownsRow.lt (hown8'.alloc (.cells #[.int .i64 65] 3)) k hk).1)
          have HB9 : Hid (Below w7.heap.size w7 w9) := hB9
          have HB69 : Hid (Below w6.heap.size w6 w9) := HB7.out.trans (hB9.mono HB7.out.size)
          clear hgrow9 hown8' hB9 hsz8
          obtain ⟨a9, c9, rfl⟩ := own_slice1 hown9
          have HO9 : Hid (w9.ownsRow w7.heap.size 3 1 (.slice a9 (s.length + 1) c9) (s.length + 1) (Tn.nums s ++ [.int .i64 65])) := hown9
          clear hown9
          obtain ⟨g0, g1, hP⟩ := HG6.out w9 HB69.out
          have p0 : w9.cell? ⟨G + 1, 0, none⟩ = some (.string op) := by simp [World.cell?, hP]
          have p1 : w9.cell? ⟨G + 1, 1, none⟩ = some (.int .i64 A) := by simp [World.cell?, hP]
          have p2 : w9.cell? ⟨G + 1, 2, none⟩ = some (.int .i64 B) := by simp [World.cell?, hP]
          have p3 : w9.cell? ⟨G + 1, 3, none⟩ = some (.string name) := by simp [World.cell?, hP]
          have p4 : w9.cell? ⟨G + 1, 4, none⟩ = some (.slice a5 s.length c5) := by simp [World.cell?, hP]
          have p5 : w9.cell? ⟨G + 1, 5, none⟩ = some (.string K) := by simp [World.cell?, hP]
          have p6 : w9.cell? ⟨G + 1, 6, none⟩ = some (.int .i64 n) := by simp [World.cell?, hP]
          have p7 : w9.cell? ⟨G + 1, 7, none⟩ = some (.slice da dl dc) := by simp [World.cell?, hP]
          have hfz9 : w9.frozen? ⟨G + 1, 4, none⟩ = false := by simp [World.frozen?, hP]
          go_upto_region 9 with fail
          clear g0 g1 p0 p1 p2 p3 p4 p5 p6 p7 hfz9
          have hN10 : (w9.setCell ⟨G + 1, 4, none⟩ (.slice a9 (s.length + 1) c9)).heap[G + 1]? = some (.cells #[.string op, .int .i64 A, .int .i64 B, .string name, .slice a9 (s.length + 1) c9, .string K, .int .i64 n, .slice da dl dc] 30 (0, 0)) := heap_setCell_same w9 (G + 1) 4 _ 30 (.slice a9 (s.length + 1) c9) hP
          have hG10 : (w9.setCell ⟨G + 1, 4, none⟩ (.slice a9 (s.length + 1) c9)).heap[G]? = some (.cells #[.slice (some ⟨b, off, none⟩) ll c, .int .i64 loss] 24 (0, 0)) := by
            rw [heap_setCell_other w9 ⟨G + 1, 4, none⟩ G _ (by show G ≠ G + 1; omega)]; exact HGb.out w9 HB69.out
          have hlen1 : (s ++ [65]).length = s.length + 1 := by simp
          have hS10 : Sp.Sl (w9.setCell ⟨G + 1, 4, none⟩ (.slice a9 (s.length + 1) c9)) a9 (s ++ [65]) := by
            have h := own_set HO9.out (p := ⟨G + 1, 4, none⟩) (Nat.lt_of_lt_of_le HG7.out HB7.out.size) (.slice a9 (s.length + 1) c9)
            have e : Tn.nums s ++ [.int .i64 65] = Tn.nums (s ++ [65]) := by simp [Tn.nums]
            rw [e] at h
            exact own_sl h
          have HS10 : Hid (Sp.Sl (w9.setCell ⟨G + 1, 4, none⟩ (.slice a9 (s.length + 1) c9)) a9 (s ++ [65])) := hS10
          have HO10 : Hid ((w9.setCell ⟨G + 1, 4, none⟩ (.slice a9 (s.length + 1) c9)).ownsRow w6.heap.size 30 8 (.slice ax (ll + 1) cx) (ll + 1) (us ++ [.string op, .int .i64 A, .int .i64 B, .string name, .slice a5 s.length c5, .string K, .int .i64 n, .slice da dl dc])) := own_set (Lx.own_below HO7.out HB9.out) (p := ⟨G + 1, 4, none⟩) HG7.out _
          have HS11 : Hid (Sp.Sl (w9.setCell ⟨G + 1, 4, none⟩ (.slice a9 (s.length + 1) c9)) a5 s) := own_sl (own_set (Lx.own_below HO6.out HB69.out) (p := ⟨G + 1, 4, none⟩) HG4.out _)
          have HP10 : Hid ((w9.setCell ⟨G + 1, 4, none⟩ (.slice a9 (s.length + 1) c9)).heap[gp]? = some (.cells #[.slice ax (ll + 1) cx, .int .i64 loss] 24 (0, 0))) := (heap_setCell_other w9 ⟨G + 1, 4, none⟩ gp _ (by show gp ≠ G + 1; have h1 := HGp.out; have h2 := HG7.out; omega)).trans (HP7.out w9 HB9.out)
          have hB10 : Below w.heap.size w (w9.setCell ⟨G + 1, 4, none⟩ (.slice a9 (s.length + 1) c9)) := Below.setCell (HBw.out w9 HB69.out) (by have := HGG.out; show w.heap.size ≤ G + 1; omega) _
          have HB10 : Hid (Below w.heap.size w (w9.setCell ⟨G + 1, 4, none⟩ (.slice a9 (s.length + 1) c9))) := hB10
          clear hS10 hB10 hP HG6 HgG HNd HBw HGb HB69 HB9 HO7 HO9 HP7 HB8 HS6 HO6 HB7 HG4 HG7 HGp HB6
          generalize w9.setCell ⟨G + 1, 4, none⟩ (.slice a9 (s.length + 1) c9) = w10 at *
          have HG10 : Hid (∀ v, Below w10.heap.size w10 v → v.cell? ⟨G, 0, none⟩ = some (.slice (some ⟨b, off, none⟩) ll c) ∧ v.cell? ⟨G, 1, none⟩ = some (.int .i64 loss) ∧ v.heap[G + 1]? = some (.cells #[.string op, .int .i64 A, .int .i64 B, .string name, .slice a9 (s.length + 1) c9, .string K, .int .i64 n, .slice da dl dc] 30 (0, 0))) := fun v hv => by
            have f0 : v.heap[G]? = some (.cells #[.slice (some ⟨b, off, none⟩) ll c, .int .i64 loss] 24 (0, 0)) := kp_below hv hG10
            exact ⟨by simp [World.cell?, f0], by simp [World.cell?, f0], kp_below hv hN10⟩
          have HgG : Hid (∀ v, Below w10.heap.size w10 v → G < v.heap.size) := fun v hv => Nat.lt_of_lt_of_le (Array.getElem?_eq_some_iff.1 hG10).1 hv.size
          have HNd : Hid (∀ v, Below w10.heap.size w10 v → Nc v [.string op, .int .i64 A, .int .i64 B, .string name, .slice a9 (s.length + 1) c9, .string K, .int .i64 n, .slice da dl dc] ⟨op, A, B, name, s ++ [65], K, n, data⟩) := fun v hv => by
            have h : Nc v [.string op, .int .i64 A, .int .i64 B, .string name, .slice a9 (s ++ [65]).length c9, .string K, .int .i64 n, .slice da data.length dc] ⟨op, A, B, name, s ++ [65], K, n, data⟩ := ⟨a9, c9, da, dc, rfl, sl_below HS10.out hv, Row.below HSD.out (HB10.out.trans (hv.mono HB10.out.size))⟩
            rwa [HDl.out, hlen1] at h
          have HN7 : Hid (Nl w10 ax (l ++ [⟨op, A, B, name, s, K, n, data⟩])) := by
            have h : Nc w10 [.string op, .int .i64 A, .int .i64 B, .string name, .slice a5 s.length c5, .string K, .int .i64 n, .slice da data.length dc] ⟨op, A, B, name, s, K, n, data⟩ := ⟨a5, c5, da, dc, rfl, HS11.out, Row.below HSD.out HB10.out⟩
            rw [HDl.out] at h
            have h2 := HO10.out
            rw [← HLl.out] at h2
            exact more_nl HCp.out HB10.out h h2
          have HC7 : Hid _ := own_cap HO10.out
          have HBw : Hid (∀ v, Below w10.heap.size w10 v → Below w.heap.size w v) := fun v hv => HB10.out.trans (hv.mono HB10.out.size)
          clear hG10 hN10 HS10 HS11 HO10 hlen1
          have hgB : G < w10.heap.size := HgG.out w10 (Below.refl _ _)
          have hul5 : us.length = ll * 8 := by rw [HCp.out.1, HLl.out]
          refine region_bar_inv 11 (by kernel_rfl) (by kernel_rfl) (fun L a v => ∃ r0 r1 r2 r3 r4 r5 r6 r7 r8 r9 r10, a = ⟨#[.agg #[.slice (some ⟨b, off, none⟩) ll c, .int .i64 loss], .agg #[.string op, .int .i64 A, .int .i64 B, .string name, .slice sa zl sc, .string K, .int .i64 n, .slice da dl dc], .pointer (some ⟨G, 0, none⟩), .pointer (some ⟨G + 1, 0, none⟩), .bool false, .slice a5 s.length c5, .bool true, .pointer (some ⟨gp, 0, none⟩), r10, .agg #[.slice (some ⟨b, off, none⟩) ll c, .int .i64 loss], .bool true, .bool false, .bool false, .agg #[.string op, .int .i64 A, .int .i64 B, .string name, .slice sa zl sc, .string K, .int .i64 n, .slice da dl dc], .slice (some ⟨w2.heap.size, 0, none⟩) 1 1, .agg #[.slice (some ⟨w2.heap.size, 0, none⟩) 1 1, .int .i64 0], .bool true, .bool false, .bool false, .bool false, .pointer (some ⟨G, 0, none⟩), .slice (some ⟨b, off, none⟩) ll c, .int .i64 (ll : Int), .bool false, .bool false, .bool false, .agg #[.slice (some ⟨b, off, none⟩) ll c, .int .i64 loss], .bool true, .bool false, .bool false, .bool false, .pointer (some ⟨G + 1, 3, none⟩), .string name, .bool false, .bool false, undef, .tuple #[.slice a5 s.length c5, .bool true], .pointer (some ⟨G, 0, none⟩), .slice (some ⟨b, off, none⟩) ll c, .agg #[.string op, .int .i64 A, .int .i64 B, .string name, .slice sa zl sc, .string K, .int .i64 n, .slice da dl dc], .tuple #[.slice a5 s.length c5, .bool true], .slice a5 s.length c5, .bool true, .bool true, .bool false, undef, undef, undef, undef, undef, undef, .slice a5 s.length c5, .pointer (some ⟨G + 1, 4, none⟩), s0, s1, s2, s3, s4, s5, .slice ax (ll + 1) cx, s7, s8, .agg #[.slice ax (ll + 1) cx, .int .i64 loss], .slice (some ⟨w7.heap.size, 0, none⟩) 0 0, .slice a5 s.length c5, .slice a8 s.length c8, .slice (some ⟨w8.heap.size, 0, none⟩) 1 1, .slice a9 (s.length + 1) c9, .pointer (some ⟨G + 1, 4, none⟩), r0, r1, r2, r3, r4, r5, r6, r7, r8, r9, undef, undef, undef, undef, undef, undef, undef, undef, undef, undef], []⟩ ∧ Aq w10 w10.heap.size G (.slice (some ⟨b, off, none⟩) ll c) us ll [.string op, .int .i64 A, .int .i64 B, .string name, .slice a9 (s.length + 1) c9, .string K, .int .i64 n, .slice da dl dc] loss L v r0 r1 r2 r3 r4 r5 r6 r7 r8 r9 r10) ?_ ?_ ?_
          · exact ⟨_, _, _, _, _, _, _, _, _, _, _, rfl, Aq.start _ rfl (by simp) _ (bl_drew (Below.refl _ _)) _ _ _ _ _ _ _ _ _ _ _⟩
          · intro L a v k hL9 hlt hI hrd
            obtain ⟨r0, r1, r2, r3, r4, r5, r6, r7, r8, r9, r10, rfl, hP⟩ := hI
            obtain ⟨hu, o9, ho, haf⟩ := mem_ready.1 hrd
            replace hu := off_of hu
            have hbv := hP.bl
            have hsz := hbv.size
            obtain ⟨y0, y1, yN⟩ := HG10.out v hbv
            rcases (by omega : k = 0 ∨ k = 1 ∨ k = 2 ∨ k = 3 ∨ k = 4 ∨ k = 5 ∨ k = 6 ∨ k = 7 ∨ k = 8 ∨ k = 9 ∨ k = 10) with rfl | rfl | rfl | rfl | rfl | rfl | rfl | rfl | rfl | rfl | rfl
            all_goals cases ho
            · have hP2 := hP.t0 (x := .slice (some ⟨v.heap.size, 0, none⟩) 0 0) (v' := v.alloc (.cells #[] 30)) ⟨_, rfl, hsz, fun _ => heap_alloc_new v _⟩ (bl_alloc (Below.refl _ _) _) hsz
              refine step_run rfl rfl ?_
              go_simp
              exact ⟨_, _, _, _, _, _, _, _, _, _, _, ⟨rfl, rfl, rfl, rfl, rfl, rfl, rfl, rfl, rfl, rfl, rfl⟩, hP2⟩
            · have hP2 := hP.t1
              refine step_run rfl rfl ?_
              go_simp
              exact ⟨_, _, _, _, _, _, _, _, _, _, _, ⟨rfl, rfl, rfl, rfl, rfl, rfl, rfl, rfl, rfl, rfl, rfl⟩, hP2⟩
            · have hP2 := hP.t2
              have e1 := (hP.h1 (haf { on := 1, ground := .data } (by simp) rfl)).symm
              subst e1
              refine step_run rfl rfl ?_
              go_simp
              exact ⟨_, _, _, _, _, _, _, _, _, _, _, ⟨rfl, rfl, rfl, rfl, rfl, rfl, rfl, rfl, rfl, rfl, rfl⟩, hP2⟩
            · have e2 := (hP.h2 (haf { on := 2, ground := .data } (by simp) rfl)).symm
              have hn6 : ¬ on L 6 := fun e => hu (hP.h6 e).1
              obtain ⟨g, e0, hg1, hg2⟩ := hP.h0 (haf { on := 0, ground := .data } (by simp) rfl) hn6
              replace e0 := e0.symm
              subst e0 e2
              have hg3 := hg2 hu
              refine step_run rfl rfl ?_
              have m2 : v.ownsRow g 30 8 (.slice (some ⟨g, 0, none⟩) 0 0) 0 [] := ⟨rfl, .inr ⟨g, 0, #[], rfl, Nat.le_refl _, hg3, Nat.le_refl _, Nat.zero_le _, rfl, rfl⟩⟩
              refine wp_append_own v (.tmp 69) (.tmp 71) 22 rfl g 30 i0 _ 8 120 Tryd.underlying22 hi hz0 hz1 hz2 rfl (by decide) (.slice (some ⟨g, 0, none⟩) 0 0) 0 [] rfl m2 ⟨b, off, none⟩ ll c us rfl hul5 (HCe.out v (HBw.out v hbv)) HUo.out (by unfold maxLen; omega) (by omega) (by have := (Array.getElem?_eq_some_iff.1 hg3).1; omega) (fun x v' ho' hg' hor => ?_)
              rw [Nat.zero_add, List.nil_append] at ho'
              have hP2 := hP.t3 (x := x) (v' := v') (Lx.own_mono ho' hg1) (hbv.trans (Below.grown (Below.refl _ _) hg' hsz (fun k h => by cases h; exact hg1))) (Kp.grown hg' (.inr rfl) hg3) hu
              exact ⟨_, _, _, _, _, _, _, _, _, _, _, rfl, hP2⟩
            · have hP2 := hP.t4
              have p0 : v.cell? ⟨G + 1, 0, none⟩ = some (.string op) := by simp [World.cell?, yN]
              have p1 : v.cell? ⟨G + 1, 1, none⟩ = some (.int .i64 A) := by simp [World.cell?, yN]
              have p2 : v.cell? ⟨G + 1, 2, none⟩ = some (.int .i64 B) := by simp [World.cell?, yN]
              have p3 : v.cell? ⟨G + 1, 3, none⟩ = some (.string name) := by simp [World.cell?, yN]
              have p4 : v.cell? ⟨G + 1, 4, none⟩ = some (.slice a9 (s.length + 1) c9) := by simp [World.cell?, yN]
              have p5 : v.cell? ⟨G + 1, 5, none⟩ = some (.string K) := by simp [World.cell?, yN]
              have p6 : v.cell? ⟨G + 1, 6, none⟩ = some (.int .i64 n) := by simp [World.cell?, yN]
              have p7 : v.cell? ⟨G + 1, 7, none⟩ = some (.slice da dl dc) := by simp [World.cell?, yN]
              refine step_run rfl rfl ?_
              go_simp
              exact ⟨_, _, _, _, _, _, _, _, _, _, _, ⟨rfl, rfl, rfl, rfl, rfl, rfl, rfl, rfl, rfl, rfl, rfl⟩, hP2⟩
            · have e4 := (hP.h4 (haf { on := 4, ground := .data } (by simp) rfl)).symm
              subst e4
              have hP2 := hP.t5 (x := .slice (some ⟨v.heap.size, 0, none⟩) 1 1) (v' := v.alloc (.cells #[.string op, .int .i64 A, .int .i64 B, .string name, .slice a9 (s.length + 1) c9, .string K, .int .i64 n, .slice da dl dc] 30)) ⟨_, rfl, heap_alloc_new v _⟩ (bl_alloc (Below.refl _ _) _) hsz
              refine step_run rfl rfl ?_
              go_simp
              exact ⟨_, _, _, _, _, _, _, _, _, _, _, ⟨rfl, rfl, rfl, rfl, rfl, rfl, rfl, rfl, rfl, rfl, rfl⟩, hP2⟩
            · have h3 := haf { on := 3, ground := .data } (by simp) rfl
              obtain ⟨g1, e5, hg1⟩ := hP.h5 (haf { on := 5, ground := .data } (by simp) rfl) hu
              have ho := hP.h3 h3 hu
              replace e5 := e5.symm
              subst e5
              obtain ⟨ay, cy, e3⟩ := own_slice8 ho
              subst e3
              refine step_run rfl rfl ?_
              have hnw : ∀ j u, ([.string op, .int .i64 A, .int .i64 B, .string name, .slice a9 (s.length + 1) c9, .string K, .int .i64 n, .slice da dl dc] : List Value)[j]? = some u → v.cell? ((⟨g1, 0, none⟩ : Addr).add j) = some u := fun j u hu => by
                rw [row_add, Nat.zero_add]
                simp only [World.cell?, hg1]
                simpa using hu
              refine wp_append_own v (.tmp 72) (.tmp 74) 22 rfl w10.heap.size 30 i0 _ 8 120 Tryd.underlying22 hi hz0 hz1 hz2 rfl (by decide) (.slice ay ll cy) ll us rfl ho ⟨g1, 0, none⟩ 1 1 [.string op, .int .i64 A, .int .i64 B, .string name, .slice a9 (s.length + 1) c9, .string K, .int .i64 n, .slice da dl dc] rfl rfl hnw (by intro u hu; simp only [List.mem_cons, List.not_mem_nil, or_false] at hu; rcases hu with rfl | rfl | rfl | rfl | rfl | rfl | rfl | rfl <;> rfl) (by unfold maxLen; omega) (by omega) hsz (fun x v' ho' hg' hor => ?_)
              have hP2 := hP.t6 (x := x) (v' := v') ho' (hbv.trans (Below.grown (Below.refl _ _) hg' hsz (fun k hk => (World.ownsRow.lt ho k hk).1))) (kp_own ho hg') hu h3
              exact ⟨_, _, _, _, _, _, _, _, _, _, _, rfl, hP2⟩
            · have hP2 := hP.t7
              refine step_run rfl rfl ?_
              go_simp
              exact ⟨_, _, _, _, _, _, _, _, _, _, _, ⟨rfl, rfl, rfl, rfl, rfl, rfl, rfl, rfl, rfl, rfl, rfl⟩, hP2⟩
            · have hP2 := hP.t8
              have e1 := (hP.h7 (haf { on := 7, ground := .data } (by simp) rfl)).symm
              subst e1
              refine step_run rfl rfl ?_
              go_simp
              exact ⟨_, _, _, _, _, _, _, _, _, _, _, ⟨rfl, rfl, rfl, rfl, rfl, rfl, rfl, rfl, rfl, rfl, rfl⟩, hP2⟩
            · have h6 := haf { on := 6, ground := .data } (by simp) rfl
              have e8 := (hP.h8 (haf { on := 8, ground := .data } (by simp) rfl)).symm
              have hP2 := hP.t9 h6
              subst e8
              obtain ⟨ay, cy, e3⟩ := own_slice8 (hP.h6 h6).2
              subst e3
              refine step_run rfl rfl ?_
              go_simp
              exact ⟨_, _, _, _, _, _, _, _, _, _, _, ⟨rfl, rfl, rfl, rfl, rfl, rfl, rfl, rfl, rfl, rfl, rfl⟩, hP2⟩
            · have hP2 := hP.t10 (x := .pointer (some ⟨v.heap.size, 0, none⟩)) (v' := v.alloc (.cells #[.slice none 0 0, .int .i64 0] 24)) ⟨_, rfl, hsz, heap_alloc_new v _⟩ (bl_alloc (Below.refl _ _) _) hsz
              refine step_run rfl rfl ?_
              go_simp
              exact ⟨_, _, _, _, _, _, _, _, _, _, _, ⟨rfl, rfl, rfl, rfl, rfl, rfl, rfl, rfl, rfl, rfl, rfl⟩, hP2⟩
          intro L a v hon hI
          obtain ⟨r0, r1, r2, r3, r4, r5, r6, r7, r8, r9, r10, rfl, hP⟩ := hI
          obtain ⟨-, ho⟩ := hP.h6 (hon 6 (by decide))
          obtain ⟨-, e9⟩ := hP.h9 (hon 9 (by decide))
          obtain ⟨gq, e10, hgp, hpl⟩ := hP.h10 (hon 10 (by decide))
          have hbv := hP.bl
          clear hP hon
          subst e9 e10
          obtain ⟨ay, cy, rfl⟩ := own_slice8 ho
          have hfzp : ∀ i, v.frozen? ⟨gq, i, none⟩ = false := fun i => by simp [World.frozen?, hpl]
          have c0 : v.cell? ⟨gq, 0, none⟩ = some (.slice none 0 0) := by simp [World.cell?, hpl]
          have hpl1 : (v.setCell ⟨gq, 0, none⟩ (.slice ay (ll + 1) cy)).heap[gq]? = some (.cells #[.slice ay (ll + 1) cy, .int .i64 0] 24 (0, 0)) := heap_setCell_same v gq 0 _ 24 _ hpl
          have c1 : (v.setCell ⟨gq, 0, none⟩ (.slice ay (ll + 1) cy)).cell? ⟨gq, 1, none⟩ = some (.int .i64 0) := by simp [World.cell?, hpl1]
          have hfz1 : (v.setCell ⟨gq, 0, none⟩ (.slice ay (ll + 1) cy)).frozen? ⟨gq, 1, none⟩ = false := by simp [World.frozen?, hpl1]
          have hpl2 : ((v.setCell ⟨gq, 0, none⟩ (.slice ay (ll + 1) cy)).setCell ⟨gq, 1, none⟩ (.int .i64 loss)).heap[gq]? = some (.cells #[.slice ay (ll + 1) cy, .int .i64 loss] 24 (0, 0)) := heap_setCell_same _ gq 1 _ 24 _ hpl1
          have ho2 := own_cell (own_cell ho hpl (fun c e => by cases e) 0 (.slice ay (ll + 1) cy)) hpl1 (fun c e => by cases e) 1 (.int .i64 loss)
          have hb2 : Below w10.heap.size w10 ((v.setCell ⟨gq, 0, none⟩ (.slice ay (ll + 1) cy)).setCell ⟨gq, 1, none⟩ (.int .i64 loss)) := Below.setCell (Below.setCell hbv hgp _) hgp _
          clear hpl hgB hul5
          refine any_one 11 _ (by kernel_rfl) rfl (fun K0 hK0 => ?_)
          go_simp
          refine hK0 _ _ ?_
          clear hK0 K0 hfzp c0 c1 hfz1 hpl1
          refine any_end (by kernel_rfl) ?_
          generalize (v.setCell ⟨gq, 0, none⟩ (.slice ay (ll + 1) cy)).setCell ⟨gq, 1, none⟩ (.int .i64 loss) = w11 at hpl2 ho2 hb2 ⊢
          clear ho hbv
          have HB11 : Hid (Below w10.heap.size w10 w11) := hb2
          have hN11 : Nl w11 ay (l ++ [⟨op, A, B, name, s ++ [65], K, n, data⟩]) := by
            have h2 := ho2
            rw [← HLl.out] at h2
            exact more_nl HCp.out (HBw.out w11 HB11.out) (HNd.out w11 HB11.out) h2
          have HN11 : Hid (Nl w11 ay (l ++ [⟨op, A, B, name, s ++ [65], K, n, data⟩])) := hN11
          have HC11 : Hid _ := own_cap ho2
          have HP11 : Hid (∀ v, Below w11.heap.size w11 v → v.heap[gq]? = some (.cells #[.slice ay (ll + 1) cy, .int .i64 loss] 24 (0, 0))) := fun v hv => kp_below hv hpl2
          have hpp : w11.heap[gp]? = some (.cells #[.slice ax (ll + 1) cx, .int .i64 loss] 24 (0, 0)) := kp_below HB11.out HP10.out
          have q0 : w11.cell? ⟨gp, 0, none⟩ = some (.slice ax (ll + 1) cx) := by simp [World.cell?, hpp]
          have q1 : w11.cell? ⟨gp, 1, none⟩ = some (.int .i64 loss) := by simp [World.cell?, hpp]
          have hr1 := HOk2.out w11 ax cx (HBw.out w11 HB11.out) (HN7.out.below HB11.out) HC7.out.1 HC7.out.2
          clear hN11 ho2 hb2 hpl2 hpp
          go_wp2_with fail
          refine hr1.mono ?_
          rintro e w12 ⟨rfl, hb12⟩
          have HB12 : Hid (Below w10.heap.size w10 w12) := HB11.out.trans (hb12.mono HB11.out.size)
          have hr2 := HNo2.out w12 ay cy (HBw.out w12 HB12.out) (HN11.out.below hb12) HC11.out.1 HC11.out.2
          have hqq := HP11.out w12 hb12
          have r0 : w12.cell? ⟨gq, 0, none⟩ = some (.slice ay (ll + 1) cy) := by simp [World.cell?, hqq]
          have r1 : w12.cell? ⟨gq, 1, none⟩ = some (.int .i64 loss) := by simp [World.cell?, hqq]
          clear hr1 hb12 q0 q1 hqq
          go_wp2_with fail
          refine hr2.mono ?_
          rintro e w13 ⟨rfl, hb13⟩
          have HB13 : Hid (Below w10.heap.size w10 w13) := HB12.out.trans (hb13.mono HB12.out.size)
          clear hr2 hb13 r0 r1
          go_wp2_with fail
          refine (HA.out _ (HBw.out _ HB13.out)).mono ?_
          rintro e w14 ⟨rfl, hb14⟩
          have HB14 : Hid (Below w.heap.size w w14) := (HBw.out _ HB13.out).trans (hb14.mono (HBw.out _ HB13.out).size)
          clear hb14
          go_wp2
          go_ret
          exact ⟨rfl, HB14.out⟩
end Go.Proofs.YtadgnafafdfioaaDoor.Gr
