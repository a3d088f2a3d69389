/-
  pair: THE SHAPE OF A NODE OF TWO PARTS. Conditions: each theorem's own.
-/
import Derived.Test.YtadgnafafdfioaaGreatDoorGa
import Derived.Test.YtadgnafafdfioaaGreatDoorGx
import Derived.Test.YtadgnafafdfioaaGreatDoorSq
namespace Go.Proofs.YtadgnafafdfioaaGreatDoor.Gr
open Go.Proofs.YtadgnafafdfioaaGreatDoor.Rd
set_option maxRecDepth 100000
open Go.RowKit
set_option linter.unusedVariables false
set_option linter.unusedSimpArgs false

theorem sl_l3 {w : World} {a : Option Addr} {x y : Int} (h : Sp.Sl w a [x, y]) : ∃ b off, a = some ⟨b, off, none⟩ ∧ w.cell? ⟨b, off, none⟩ = some (.int .i64 x) ∧ w.cell? ⟨b, off + 1, none⟩ = some (.int .i64 y) := by
  obtain ⟨b, off, e, h0⟩ := h 0 (by simp)
  obtain ⟨b', off', e', h1⟩ := h 1 (by simp)
  rw [e] at e'
  simp at e'
  obtain ⟨rfl, rfl⟩ := e'
  exact ⟨b, off, e, h0, h1⟩
theorem len_t3 {xs : List Int} (h : xs.length = 2) : ∃ x y, xs = [x, y] := by
  match xs, h with
  | [x, y], _ => exact ⟨x, y, rfl⟩

set_option maxHeartbeats 4000000 in
theorem pair_any (op : ByteArray) (xs ys : List Int) (ac bc : Nat) (aa ba : Option Addr) (w : World) (hT : Sp.Sl w aa xs) (hU : Sp.Sl w ba ys) (hxs : xs.length ≤ 1000) (hys : ys.length ≤ 1000) :
    Calls Tryz.prog 38 #[.string op, .slice aa xs.length ac, .slice ba ys.length bc] w fun e w' => Shp w' (pai op xs ys) e ∧ Below w.heap.size w w' := by
  unfold pai
  have HT : Hid (∀ v, Below w.heap.size w v → Sp.Sl v aa xs) := fun v hv => sl_below hT hv
  have HR : Hid (Below w.heap.size w w) := Below.refl _ _
  by_cases h0 : isw op lMatmul = true
  rotate_left
  · rw [if_neg h0]
    have g0 := isw_b (show isw op lMatmul = false by simpa using h0)
    have hc := Sp.same_any aa ba xs ys ac bc w hxs hys hT hU
    by_cases he : xs = ys
    · rw [if_pos he]
      rw [decide_eq_true he] at hc
      clear h0 he hT hU
      obtain ⟨xl, hxl⟩ : ∃ m, xs.length = m := ⟨_, rfl⟩
      have HXL : Hid _ := hxl
      rw [hxl] at hc ⊢
      clear hxl
      generalize ys.length = yl at hc ⊢
      go_enter Tryz.func38, Tryz.ntmps38
      go_wp2_with fail
      refine hc.mono ?_
      rintro e w1 ⟨rfl, hs⟩
      have HS : Hid _ := hs.below w.heap.size
      clear hs
      go_wp2
      go_ret2
      exact ⟨⟨aa, ac, by rw [HXL.out]; rfl, HT.out _ HS.out⟩, HS.out⟩
    · rw [if_neg he]
      rw [decide_eq_false he] at hc
      clear h0 he hT hU HT
      generalize xs.length = xl at hc ⊢
      generalize ys.length = yl at hc ⊢
      go_enter Tryz.func38, Tryz.ntmps38
      go_wp2_with fail
      refine hc.mono ?_
      rintro e w1 ⟨rfl, hs⟩
      have HS : Hid _ := hs.below w.heap.size
      clear hs
      go_wp2
      go_ret2
      exact ⟨⟨_, _, _, rfl⟩, HS.out⟩
  rw [if_pos h0]
  have g0 := isw_b h0
  clear h0
  by_cases h2 : xs.length = 2
  rotate_left
  · rw [if_neg fun c => h2 c.1]
    have hx1 : ((xs.length : Int) != 2) = true := by simp; omega
    have hx2 : ((xs.length : Int) == 2) = false := by simp; omega
    clear hT hU HT
    generalize xs.length = xl at *
    generalize ys.length = yl at *
    go_enter Tryz.func38, Tryz.ntmps38
    go_upto_region 3 with fail
    go_quiet (fail)
    go_wp2
    go_ret2
    exact ⟨⟨_, _, _, rfl⟩, bl_n HR.out _⟩
  obtain ⟨x0, x1, rfl⟩ := len_t3 h2
  obtain ⟨xb, xo, rfl, hX, hY⟩ := sl_l3 hT
  by_cases h3 : ys.length = 2
  rotate_left
  · rw [if_neg fun c => h3 c.2.1]
    have hx1 : ((ys.length : Int) != 2) = true := by simp; omega
    have hx2 : ((ys.length : Int) == 2) = false := by simp; omega
    clear hT hU HT
    generalize ys.length = yl at *
    simp only [List.length_cons, List.length_nil, Nat.zero_add]
    go_enter Tryz.func38, Tryz.ntmps38
    go_upto_region 3 with fail
    go_quiet (fail)
    go_wp2
    go_ret2
    exact ⟨⟨_, _, _, rfl⟩, bl_n HR.out _⟩
  obtain ⟨y0, y1, rfl⟩ := len_t3 h3
  obtain ⟨yb, yo, rfl, hZ, hV⟩ := sl_l3 hU
  by_cases hxy : x1 = y0
  rotate_left
  · rw [if_neg fun c => hxy c.2.2]
    clear hT hU HT h2 h3
    simp only [List.length_cons, List.length_nil, Nat.zero_add]
    go_enter Tryz.func38, Tryz.ntmps38
    go_upto_region 3 with fail
    go_quiet (fail)
    go_wp2
    go_ret2
    exact ⟨⟨_, _, _, rfl⟩, bl_n HR.out _⟩
  rw [if_pos ⟨h2, h3, hxy⟩]
  subst hxy
  have HSl : Hid (∀ v : World, Sp.Sl (v.alloc (.cells #[.int .i64 x0, .int .i64 y1] 3)) (some ⟨v.heap.size, 0, none⟩) [x0, y1]) := fun v => sl_two v _ _
  have HBa : Hid (∀ n o, Below w.heap.size w ((w.drewN n).alloc o)) := fun n o => (bl_n HR.out n).alloc HR.out.size o
  clear hT hU HT h2 h3
  simp only [List.length_cons, List.length_nil, Nat.zero_add]
  go_enter Tryz.func38, Tryz.ntmps38
  go_upto_region 3 with fail
  go_quiet (fail)
  go_upto_region 5 with fail
  go_region
  go_wp2
  go_ret2
  exact ⟨⟨_, _, rfl, HSl.out _⟩, HBa.out _ _⟩
end Go.Proofs.YtadgnafafdfioaaGreatDoor.Gr
