/-
  single: THE SHAPE OF A NODE OF ONE PART. Conditions: each theorem's own.
-/
import Derived.Test.YtadgnafafdfioaaGreatDoorGa
import Derived.Test.YtadgnafafdfioaaGreatDoorGx
import Derived.Test.YtadgnafafdfioaaGreatDoorApi
namespace Go.Proofs.YtadgnafafdfioaaGreatDoor.Gr
open Go.Proofs.YtadgnafafdfioaaGreatDoor.Rd
set_option maxRecDepth 100000
open Go.RowKit
set_option linter.unusedVariables false
set_option linter.unusedSimpArgs false

theorem sl_l2 {w : World} {a : Option Addr} {x y : Int} (h : Sp.Sl w a [x, y]) : ∃ b off, a = some ⟨b, off, none⟩ ∧ w.cell? ⟨b, off, none⟩ = some (.int .i64 x) ∧ w.cell? ⟨b, off + 1, none⟩ = some (.int .i64 y) := by
  obtain ⟨b, off, e, h0⟩ := h 0 (by simp)
  obtain ⟨b', off', e', h1⟩ := h 1 (by simp)
  rw [e] at e'
  simp at e'
  obtain ⟨rfl, rfl⟩ := e'
  exact ⟨b, off, e, h0, h1⟩
theorem len_t {xs : List Int} (h : xs.length = 2) : ∃ x y, xs = [x, y] := by
  match xs, h with
  | [x, y], _ => exact ⟨x, y, rfl⟩

set_option maxHeartbeats 4000000 in
theorem single_any (op name K : ByteArray) (A B n : Int) (zs : List Int) (data : List ByteArray) (xs : List Int) (sc dc ac : Nat) (sa da aa : Option Addr) (aF aZ : Addr) (w : World) (hE : Er w aF aZ) (hS : Sp.Sl w sa zs) (hT : Sp.Sl w aa xs) (hzs : zs.length ≤ 1000) (hxs : xs.length ≤ 1000) (hks : K.size ≤ 20000) :
    Calls Tryz.prog 37 #[.agg #[.string op, .int .i64 A, .int .i64 B, .string name, .slice sa zs.length sc, .string K, .int .i64 n, .slice da data.length dc], .slice aa xs.length ac] w fun e w' => Shp w' (sgl ⟨op, A, B, name, zs, K, n, data⟩ xs) e ∧ Below w.heap.size w w' := by
  unfold sgl
  simp only
  have HB : Hid (∀ o, Below w.heap.size w (w.alloc o)) := fun o => bl_alloc (Below.refl _ _) o
  have HT : Hid (∀ v, Below w.heap.size w v → Sp.Sl v aa xs) := fun v hv => sl_below hT hv
  have HS : Hid (∀ v, Below w.heap.size w v → Sp.Sl v sa zs) := fun v hv => sl_below hS hv
  have HE : Hid _ := hE
  generalize data.length = dl
  by_cases h0 : isw op lScale = true
  · rw [if_pos h0]
    have g0 := isw_b h0
    clear h0
    obtain ⟨r, hr⟩ : ∃ b, ra K = b := ⟨_, rfl⟩
    have HR : Hid _ := hr
    rw [hr]
    clear hr hS hT hE
    generalize hsl : zs.length = sl
    clear hsl
    obtain ⟨xl, hxl⟩ : ∃ m, xs.length = m := ⟨_, rfl⟩
    have HXL : Hid _ := hxl
    rw [hxl]
    clear hxl
    go_enter Tryz.func37, Tryz.ntmps37
    go_wp2_with fail
    refine (Right_is K r aF aZ _ (HE.out.below (HB.out _)) (by omega) HR.out).mono ?_
    rintro e w1 ⟨rfl, h1⟩
    have H1 : Hid _ := (HB.out (.cells #[.string op, .int .i64 A, .int .i64 B, .string name, .slice sa sl sc, .string K, .int .i64 n, .slice da dl dc] 28)).trans (h1.mono (HB.out _).size)
    clear h1
    cases r with
    | true =>
      go_wp2
      go_ret2
      exact ⟨⟨aa, ac, by rw [HXL.out]; rfl, HT.out _ H1.out⟩, H1.out⟩
    | false =>
      go_wp2
      go_ret2
      exact ⟨⟨_, _, _, rfl⟩, H1.out⟩
  rw [if_neg h0]
  have g0 := isw_b (show isw op lScale = false by simpa using h0)
  clear h0
  by_cases h1 : isw op lPower = true
  · rw [if_pos h1]
    have g1 := isw_b h1
    clear h1
    by_cases h0 : 0 ≤ n
    rotate_left
    · rw [if_neg (fun c => h0 c.1)]
      clear hS hT hE
      generalize hsl : zs.length = sl
      clear hsl
      obtain ⟨xl, hxl⟩ : ∃ m, xs.length = m := ⟨_, rfl⟩
      have HXL : Hid _ := hxl
      rw [hxl]
      clear hxl
      go_enter Tryz.func37, Tryz.ntmps37
      go_upto_region 5 with fail
      go_quiet (fail)
      go_wp2
      go_ret2
      exact ⟨⟨_, _, _, rfl⟩, bl_n (HB.out _) _⟩
    by_cases h6 : n ≤ 6
    rotate_left
    · rw [if_neg (fun c => h6 c.2)]
      clear hS hT hE
      generalize hsl : zs.length = sl
      clear hsl
      obtain ⟨xl, hxl⟩ : ∃ m, xs.length = m := ⟨_, rfl⟩
      have HXL : Hid _ := hxl
      rw [hxl]
      clear hxl
      go_enter Tryz.func37, Tryz.ntmps37
      go_upto_region 5 with fail
      go_quiet (fail)
      go_wp2
      go_ret2
      exact ⟨⟨_, _, _, rfl⟩, bl_n (HB.out _) _⟩
    rw [if_pos ⟨h0, h6⟩]
    clear hS hT hE
    generalize hsl : zs.length = sl
    clear hsl
    obtain ⟨xl, hxl⟩ : ∃ m, xs.length = m := ⟨_, rfl⟩
    have HXL : Hid _ := hxl
    rw [hxl]
    clear hxl
    go_enter Tryz.func37, Tryz.ntmps37
    go_upto_region 5 with fail
    go_quiet (fail)
    go_wp2
    go_ret2
    exact ⟨⟨aa, ac, by rw [HXL.out]; rfl, HT.out _ (bl_n (HB.out _) _)⟩, bl_n (HB.out _) _⟩
  rw [if_neg h1]
  have g1 := isw_b (show isw op lPower = false by simpa using h1)
  clear h1
  by_cases h2 : isw op lTranspose = true
  · rw [if_pos h2]
    have g2 := isw_b h2
    clear h2
    by_cases h2 : xs.length = 2
    rotate_left
    · rw [if_neg h2]
      clear hS hT hE
      generalize hsl : zs.length = sl
      clear hsl
      obtain ⟨xl, hxl⟩ : ∃ m, xs.length = m := ⟨_, rfl⟩
      rw [hxl] at h2 ⊢
      clear hxl
      go_enter Tryz.func37, Tryz.ntmps37
      go_wp2
      go_ret2
      exact ⟨⟨_, _, _, rfl⟩, HB.out _⟩
    rw [if_pos h2]
    obtain ⟨x0, x1, rfl⟩ := len_t h2
    obtain ⟨xb, xo, rfl, hX, hY⟩ := sl_l2 hT
    have HSl : Hid (∀ (v : World) (b : Nat), v.heap.size = b → Sp.Sl (v.alloc (.cells #[.int .i64 x1, .int .i64 x0] 3)).drew (some ⟨b, 0, none⟩) [[x0, x1].getD 1 0, [x0, x1].getD 0 0]) := fun v b h => h ▸ sl_two v _ _
    clear hS hT hE h2 HT
    generalize hsl : zs.length = sl
    clear hsl
    have HBa : Hid (∀ o o', Below w.heap.size w (((w.alloc o).alloc o').drew)) := fun o o' => bl_drew (bl_alloc (HB.out o) o')
    have cX : ∀ o, (w.alloc o).cell? ⟨xb, xo, none⟩ = some (.int .i64 x0) := fun o => cell_below (HB.out o) hX
    have cY : ∀ o, (w.alloc o).cell? ⟨xb, xo + 1, none⟩ = some (.int .i64 x1) := fun o => cell_below (HB.out o) hY
    clear hX hY
    simp only [List.length_cons, List.length_nil, Nat.zero_add]
    go_enter Tryz.func37, Tryz.ntmps37
    go_upto_region 9 with fail
    go_region
    go_wp2
    go_ret2
    exact ⟨⟨_, _, rfl, HSl.out _ _ (by simp)⟩, HBa.out _ _⟩
  rw [if_neg h2]
  have g2 := isw_b (show isw op lTranspose = false by simpa using h2)
  clear h2
  by_cases h3 : isw op lSum = true
  · rw [if_pos h3]
    have g3 := isw_b h3
    clear h3
    clear hS hT hE
    generalize hsl : zs.length = sl
    clear hsl
    obtain ⟨xl, hxl⟩ : ∃ m, xs.length = m := ⟨_, rfl⟩
    have HXL : Hid _ := hxl
    rw [hxl]
    clear hxl
    go_enter Tryz.func37, Tryz.ntmps37
    go_wp2
    go_ret2
    exact ⟨⟨_, _, rfl, Sp.Sl.nil _ _⟩, HB.out _⟩
  rw [if_neg h3]
  have g3 := isw_b (show isw op lSum = false by simpa using h3)
  clear h3
  by_cases h4 : isw op lReshape = true
  · rw [if_pos h4]
    have g4 := isw_b h4
    clear h4
    obtain ⟨m1, hm1⟩ : ∃ k : Nat, Sp.szI zs = k := ⟨_, rfl⟩
    obtain ⟨m2, hm2⟩ : ∃ k : Nat, Sp.szI xs = k := ⟨_, rfl⟩
    have HZ : Hid (∀ v, Below w.heap.size w v → Calls Tryz.prog 39 #[.slice sa zs.length sc] v fun e w' => e = .returned (.int .i64 (m1 : Nat)) ∧ w' = v) := fun v hv => hm1 ▸ Sp.size_any sa zs sc v hzs (sl_below hS hv)
    have HX : Hid (∀ v, Below w.heap.size w v → Calls Tryz.prog 39 #[.slice aa xs.length ac] v fun e w' => e = .returned (.int .i64 (m2 : Nat)) ∧ w' = v) := fun v hv => hm2 ▸ Sp.size_any aa xs ac v hxs (sl_below hT hv)
    have HT2 : Hid (∀ v, Below w.heap.size w v → ∀ a n c m, (a = sa ∧ n = zs.length ∧ c = sc ∧ m = m1) ∨ (a = aa ∧ n = xs.length ∧ c = ac ∧ m = m2) → Calls Tryz.prog 39 #[.slice a n c] v fun e w' => e = .returned (.int .i64 (m : Nat)) ∧ w' = v) := fun v hv a n c m h => by
      rcases h with ⟨rfl, rfl, rfl, rfl⟩ | ⟨rfl, rfl, rfl, rfl⟩
      · exact HZ.out v hv
      · exact HX.out v hv
    clear HZ HX
    rw [hm1, hm2]
    clear hm1 hm2 hS hT hE
    obtain ⟨sl, hsl⟩ : ∃ m, zs.length = m := ⟨_, rfl⟩
    have HSL : Hid _ := hsl
    rw [hsl] at HT2 ⊢
    clear hsl
    obtain ⟨xl, hxl⟩ : ∃ m, xs.length = m := ⟨_, rfl⟩
    rw [hxl] at HT2 ⊢
    clear hxl
    by_cases he : m1 = m2
    · rw [if_pos he]
      subst he
      go_enter Tryz.func37, Tryz.ntmps37
      go_upto_region 13 with fail
      go_quiet ((go_at_call 39; exact Calls.quiet_of_same (HT2.out _ (bl_n (HB.out _) _) _ _ _ _ (by first | exact Or.inl ⟨rfl, rfl, rfl, rfl⟩ | exact Or.inr ⟨rfl, rfl, rfl, rfl⟩))))
      go_wp2
      go_ret2
      exact ⟨⟨sa, sc, by rw [HSL.out]; rfl, HS.out _ (bl_n (HB.out _) _)⟩, bl_n (HB.out _) _⟩
    · rw [if_neg he]
      have he1 : ((m1 : Int) != (m2 : Int)) = true := by simp; omega
      have he2 : ((m1 : Int) == (m2 : Int)) = false := by simp; omega
      go_enter Tryz.func37, Tryz.ntmps37
      go_upto_region 13 with fail
      go_quiet ((go_at_call 39; exact Calls.quiet_of_same (HT2.out _ (bl_n (HB.out _) _) _ _ _ _ (by first | exact Or.inl ⟨rfl, rfl, rfl, rfl⟩ | exact Or.inr ⟨rfl, rfl, rfl, rfl⟩))))
      go_wp2
      go_ret2
      exact ⟨⟨_, _, _, rfl⟩, bl_n (HB.out _) _⟩
  rw [if_neg h4]
  have g4 := isw_b (show isw op lReshape = false by simpa using h4)
  clear h4
  by_cases h5 : isw op lSpread = true
  · rw [if_pos h5]
    have g5 := isw_b h5
    clear h5
    clear hS hT hE
    obtain ⟨sl, hsl⟩ : ∃ m, zs.length = m := ⟨_, rfl⟩
    have HSL : Hid _ := hsl
    rw [hsl]
    clear hsl
    obtain ⟨xl, hxl⟩ : ∃ m, xs.length = m := ⟨_, rfl⟩
    rw [hxl]
    clear hxl
    by_cases h0 : xl = 0
    · rw [if_pos h0]
      go_enter Tryz.func37, Tryz.ntmps37
      go_wp2
      go_ret2
      exact ⟨⟨sa, sc, by rw [HSL.out]; rfl, HS.out _ (HB.out _)⟩, HB.out _⟩
    · rw [if_neg h0]
      have h01 : ((xl : Int) == 0) = false := by simp; omega
      go_enter Tryz.func37, Tryz.ntmps37
      go_wp2
      go_ret2
      exact ⟨⟨_, _, _, rfl⟩, HB.out _⟩
  rw [if_neg h5]
  have g5 := isw_b (show isw op lSpread = false by simpa using h5)
  clear h5
  clear hS hT hE
  generalize hsl : zs.length = sl
  clear hsl
  obtain ⟨xl, hxl⟩ : ∃ m, xs.length = m := ⟨_, rfl⟩
  have HXL : Hid _ := hxl
  rw [hxl]
  clear hxl
  go_enter Tryz.func37, Tryz.ntmps37
  go_wp2
  go_ret2
  exact ⟨⟨aa, ac, by rw [HXL.out]; rfl, HT.out _ (HB.out _)⟩, HB.out _⟩
end Go.Proofs.YtadgnafafdfioaaGreatDoor.Gr
