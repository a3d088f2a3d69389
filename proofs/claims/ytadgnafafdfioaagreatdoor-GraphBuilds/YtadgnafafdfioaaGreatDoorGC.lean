/-
  given: HAS A NODE OF NO PARTS WHAT IT MUST? Conditions: each theorem's own.
-/
import Derived.Test.YtadgnafafdfioaaGreatDoorGa
import Derived.Test.YtadgnafafdfioaaGreatDoorGX
import Derived.Test.YtadgnafafdfioaaGreatDoorNam
import Derived.Test.YtadgnafafdfioaaGreatDoorApi
namespace Go.Proofs.YtadgnafafdfioaaGreatDoor.Gr
open Go.Proofs.YtadgnafafdfioaaGreatDoor.Rd
set_option maxRecDepth 100000
open Go.RowKit
set_option linter.unusedVariables false
set_option linter.unusedSimpArgs false

set_option maxHeartbeats 2000000 in
theorem given_any (op name K : ByteArray) (A B n : Int) (zs : List Int) (data : List ByteArray) (sc dc : Nat) (sa da : Option Addr) (aF aZ : Addr) (w : World) (hE : Er w aF aZ) (hS : Sp.Sl w sa zs) (hD : Row w da (txts data)) (hzs : zs.length ≤ 1000) (hdl : data.length ≤ 1000000) (hds : ∀ x ∈ data, x.size ≤ 20000) :
    Calls Tryz.prog 36 #[.agg #[.string op, .int .i64 A, .int .i64 B, .string name, .slice sa zs.length sc, .string K, .int .i64 n, .slice da data.length dc]] w fun e w' => e = .returned (.bool (gvn ⟨op, A, B, name, zs, K, n, data⟩)) ∧ Below w.heap.size w w' := by
  unfold gvn
  simp only
  obtain ⟨q, hq⟩ : ∃ b, nmd op = b := ⟨_, rfl⟩
  have HN : Hid (∀ v, Calls Tryz.prog 18 #[.string op] v fun e w' => e = .returned (.bool q) ∧ w' = v) := fun v => hq ▸ named_any op v
  rw [hq]
  clear hq
  have HB : Hid (∀ o, Below w.heap.size w (w.alloc o)) := fun o => bl_alloc (Below.refl _ _) o
  cases q with
  | true =>
    obtain ⟨m, hm⟩ : ∃ b, nmb name = b := ⟨_, rfl⟩
    have HM : Hid (∀ v, Calls Tryz.prog 49 #[.string name] v fun e w' => e = .returned (.bool m) ∧ w' = v) := fun v => hm ▸ Lx.name_any name v
    rw [hm]
    clear hm hE hS hD
    generalize zs.length = sl
    generalize data.length = dl
    go_enter Tryz.func36, Tryz.ntmps36
    go_wp2_with fail
    refine (HN.out _).mono ?_
    rintro e w1 ⟨rfl, rfl⟩
    go_wp2_with fail
    refine (HM.out _).mono ?_
    rintro e w1 ⟨rfl, rfl⟩
    go_wp2
    go_ret
    exact ⟨by simp, HB.out _⟩
  | false =>
    obtain ⟨m1, hm1⟩ : ∃ k : Nat, Sp.szI zs = k := ⟨_, rfl⟩
    have HZ : Hid (∀ v, Below w.heap.size w v → Calls Tryz.prog 39 #[.slice sa zs.length sc] v fun e w' => e = .returned (.int .i64 (m1 : Nat)) ∧ w' = v) := fun v hv => hm1 ▸ Sp.size_any sa zs sc v hzs (sl_below hS hv)
    have HM : Hid ((∀ i, i < data.length → ra (data.getD i em) = true) → data.all ra = true) := all_y
    have HNo : Hid (∀ i, i < data.length → ra (data.getD i em) = false → data.all ra = false) := fun i hi h => all_n hi h
    have HRx : Hid (∀ v, Below w.heap.size w v → ∀ i, i < data.length → ∃ b off, da = some ⟨b, off, none⟩ ∧ v.cell? ⟨b, off + i, none⟩ = some (.string (data.getD i em))) := fun v hv i hi => row_s (Row.below hD hv) hi
    have HS : Hid (∀ i, i < data.length → (data.getD i em).size ≤ 20000) := fun i hi => by rw [List.getD_eq_getElem?_getD, List.getElem?_eq_getElem hi]; exact hds _ (List.getElem_mem hi)
    have HE : Hid _ := hE
    generalize data.all ra = al at HM HNo ⊢
    obtain ⟨N, hN⟩ : ∃ N, data.length = N := ⟨_, rfl⟩
    rw [hN] at HM HNo HRx HS hdl ⊢
    rw [hm1]
    clear hN hm1 hE hS hD hds
    generalize zs.length = sl at HZ hzs ⊢
    go_enter Tryz.func36, Tryz.ntmps36
    go_wp2_with fail
    refine (HN.out _).mono ?_
    rintro e w1 ⟨rfl, rfl⟩
    go_upto_region 3 with fail
    go_quiet ((go_at_call 39; exact Calls.quiet_of_same (HZ.out _ (bl_n (HB.out _) _))))
    obtain ⟨cn, hcn⟩ : ∃ b, ((N : Int) != (m1 : Int)) = b := ⟨_, rfl⟩
    have heq : cn = !decide (N = m1) := by
      rw [← hcn]
      by_cases h : N = m1
      · simp [h]
      · have h' : ¬ (N : Int) = (m1 : Int) := by omega
        simp [h, h', bne]
    have HEq : Hid _ := heq
    clear heq
    simp only [hcn]
    clear hcn
    cases cn with
    | true =>
      go_wp2
      go_ret
      exact ⟨by have := HEq.out; simp at this; simp [this], bl_n (HB.out _) _⟩
    | false =>
    have her : N = m1 := by have := HEq.out; simpa using this.symm
    have HEr : Hid _ := her
    clear her
    go_wp2_with fail
    go_loopw [21] (fun i wr => ∃ k : Nat, k ≤ N ∧ i = .int .i64 (k : Int) ∧ (∀ j, j < k → ra (data.getD j em) = true) ∧ Below w.heap.size w wr) (fun i _ => N - (intOf i).toNat)
    case atStart => exact ⟨0, by omega, rfl, fun j hj => by omega, bl_n (HB.out _) _⟩
    case round =>
      obtain ⟨k, hk, rfl, hj, hb⟩ := hrel
      have HJ : Hid _ := And.intro hj hb
      clear hj
      by_cases h : k < N
      · obtain ⟨b, off, rfl, hc⟩ := HRx.out wr hb k h
        have hsz := HS.out k h
        clear hb
        obtain ⟨x, hx⟩ : ∃ z, data.getD k em = z := ⟨_, rfl⟩
        rw [hx] at hc hsz
        have HX : Hid _ := hx
        clear hx
        obtain ⟨r, hr⟩ : ∃ r, ra x = r := ⟨_, rfl⟩
        have HRa : Hid _ := hr
        clear hr
        go_wp2_with fail
        refine (Right_is x r aF aZ _ (HE.out.below HJ.out.2) (by omega) HRa.out).mono ?_
        rintro e w1 ⟨rfl, h1⟩
        have H1 : Hid _ := HJ.out.2.trans (h1.mono HJ.out.2.size)
        clear h1 hc
        cases r with
        | true =>
          go_wp2
          go_roundw
          case rel =>
            refine ⟨k + 1, by omega, by go_num, fun j hj => ?_, H1.out⟩
            by_cases e : j = k
            · rw [e, HX.out]; exact HRa.out
            · exact HJ.out.1 j (by omega)
          case measure => simp [intOf]; omega
        | false =>
          have HF : Hid (al = false) := HNo.out k h (by rw [HX.out]; exact HRa.out)
          go_wp2
          go_ret
          exact ⟨by simp [HF.out], H1.out⟩
      · have HT : Hid (al = true) := HM.out (fun i hi => HJ.out.1 i (by omega))
        clear hb
        go_wp2
        go_ret
        exact ⟨by simp [HT.out, HEr.out], HJ.out.2⟩
end Go.Proofs.YtadgnafafdfioaaGreatDoor.Gr
/-
  single: THE SHAPE OF A NODE OF ONE PART. Conditions: each theorem's own.
-/
namespace Go.Proofs.YtadgnafafdfioaaGreatDoor.Gr
open Go.Proofs.YtadgnafafdfioaaGreatDoor.Rd
set_option maxRecDepth 100000
open Go.RowKit
set_option linter.unusedVariables false
set_option linter.unusedSimpArgs false

theorem sl_l2 {w : World} {a : Option Addr} {x y : Int} (h : Sp.Sl w a [x, y]) : ∃ b off, a = some ⟨b, off, none⟩ ∧ w.cell? ⟨b, off, none⟩ = some (.int .i64 x) ∧ w.cell? ⟨b, off + 1, none⟩ = some (.int .i64 y) := by
  obtain ⟨b, off, e, h0⟩ := h 0 (by simp)
  obtain ⟨b', off', e', h1⟩ := h 1 (by simp)
  rw [e] at e'
  simp at e'
  obtain ⟨rfl, rfl⟩ := e'
  exact ⟨b, off, e, h0, h1⟩
theorem len_t {xs : List Int} (h : xs.length = 2) : ∃ x y, xs = [x, y] := by
  match xs, h with
  | [x, y], _ => exact ⟨x, y, rfl⟩

set_option maxHeartbeats 4000000 in
theorem single_any (op name K : ByteArray) (A B n : Int) (zs : List Int) (data : List ByteArray) (xs : List Int) (sc dc ac : Nat) (sa da aa : Option Addr) (aF aZ : Addr) (w : World) (hE : Er w aF aZ) (hS : Sp.Sl w sa zs) (hT : Sp.Sl w aa xs) (hzs : zs.length ≤ 1000) (hxs : xs.length ≤ 1000) (hks : K.size ≤ 20000) :
    Calls Tryz.prog 37 #[.agg #[.string op, .int .i64 A, .int .i64 B, .string name, .slice sa zs.length sc, .string K, .int .i64 n, .slice da data.length dc], .slice aa xs.length ac] w fun e w' => Shp w' (sgl ⟨op, A, B, name, zs, K, n, data⟩ xs) e ∧ Below w.heap.size w w' := by
  unfold sgl
  simp only
  have HB : Hid (∀ o, Below w.heap.size w (w.alloc o)) := fun o => bl_alloc (Below.refl _ _) o
  have HT : Hid (∀ v, Below w.heap.size w v → Sp.Sl v aa xs) := fun v hv => sl_below hT hv
  have HS : Hid (∀ v, Below w.heap.size w v → Sp.Sl v sa zs) := fun v hv => sl_below hS hv
  have HE : Hid _ := hE
  generalize data.length = dl
  by_cases h0 : isw op lScale = true
  · rw [if_pos h0]
    have g0 := isw_b h0
    clear h0
    obtain ⟨r, hr⟩ : ∃ b, ra K = b := ⟨_, rfl⟩
    have HR : Hid _ := hr
    rw [hr]
    clear hr hS hT hE
    generalize hsl : zs.length = sl
    clear hsl
    obtain ⟨xl, hxl⟩ : ∃ m, xs.length = m := ⟨_, rfl⟩
    have HXL : Hid _ := hxl
    rw [hxl]
    clear hxl
    go_enter Tryz.func37, Tryz.ntmps37
    go_wp2_with fail
    refine (Right_is K r aF aZ _ (HE.out.below (HB.out _)) (by omega) HR.out).mono ?_
    rintro e w1 ⟨rfl, h1⟩
    have H1 : Hid _ := (HB.out (.cells #[.string op, .int .i64 A, .int .i64 B, .string name, .slice sa sl sc, .string K, .int .i64 n, .slice da dl dc] 28)).trans (h1.mono (HB.out _).size)
    clear h1
    cases r with
    | true =>
      go_wp2
      go_ret2
      exact ⟨⟨aa, ac, by rw [HXL.out]; rfl, HT.out _ H1.out⟩, H1.out⟩
    | false =>
      go_wp2
      go_ret2
      exact ⟨⟨_, _, _, rfl⟩, H1.out⟩
  rw [if_neg h0]
  have g0 := isw_b (show isw op lScale = false by simpa using h0)
  clear h0
  by_cases h1 : isw op lPower = true
  · rw [if_pos h1]
    have g1 := isw_b h1
    clear h1
    by_cases h0 : 0 ≤ n
    rotate_left
    · rw [if_neg (fun c => h0 c.1)]
      clear hS hT hE
      generalize hsl : zs.length = sl
      clear hsl
      obtain ⟨xl, hxl⟩ : ∃ m, xs.length = m := ⟨_, rfl⟩
      have HXL : Hid _ := hxl
      rw [hxl]
      clear hxl
      go_enter Tryz.func37, Tryz.ntmps37
      go_upto_region 5 with fail
      go_quiet (fail)
      go_wp2
      go_ret2
      exact ⟨⟨_, _, _, rfl⟩, bl_n (HB.out _) _⟩
    by_cases h6 : n ≤ 6
    rotate_left
    · rw [if_neg (fun c => h6 c.2)]
      clear hS hT hE
      generalize hsl : zs.length = sl
      clear hsl
      obtain ⟨xl, hxl⟩ : ∃ m, xs.length = m := ⟨_, rfl⟩
      have HXL : Hid _ := hxl
      rw [hxl]
      clear hxl
      go_enter Tryz.func37, Tryz.ntmps37
      go_upto_region 5 with fail
      go_quiet (fail)
      go_wp2
      go_ret2
      exact ⟨⟨_, _, _, rfl⟩, bl_n (HB.out _) _⟩
    rw [if_pos ⟨h0, h6⟩]
    clear hS hT hE
    generalize hsl : zs.length = sl
    clear hsl
    obtain ⟨xl, hxl⟩ : ∃ m, xs.length = m := ⟨_, rfl⟩
    have HXL : Hid _ := hxl
    rw [hxl]
    clear hxl
    go_enter Tryz.func37, Tryz.ntmps37
    go_upto_region 5 with fail
    go_quiet (fail)
    go_wp2
    go_ret2
    exact ⟨⟨aa, ac, by rw [HXL.out]; rfl, HT.out _ (bl_n (HB.out _) _)⟩, bl_n (HB.out _) _⟩
  rw [if_neg h1]
  have g1 := isw_b (show isw op lPower = false by simpa using h1)
  clear h1
  by_cases h2 : isw op lTranspose = true
  · rw [if_pos h2]
    have g2 := isw_b h2
    clear h2
    by_cases h2 : xs.length = 2
    rotate_left
    · rw [if_neg h2]
      clear hS hT hE
      generalize hsl : zs.length = sl
      clear hsl
      obtain ⟨xl, hxl⟩ : ∃ m, xs.length = m := ⟨_, rfl⟩
      rw [hxl] at h2 ⊢
      clear hxl
      go_enter Tryz.func37, Tryz.ntmps37
      go_wp2
      go_ret2
      exact ⟨⟨_, _, _, rfl⟩, HB.out _⟩
    rw [if_pos h2]
    obtain ⟨x0, x1, rfl⟩ := len_t h2
    obtain ⟨xb, xo, rfl, hX, hY⟩ := sl_l2 hT
    have HSl : Hid (∀ (v : World) (b : Nat), v.heap.size = b → Sp.Sl (v.alloc (.cells #[.int .i64 x1, .int .i64 x0] 3)).drew (some ⟨b, 0, none⟩) [[x0, x1].getD 1 0, [x0, x1].getD 0 0]) := fun v b h => h ▸ sl_two v _ _
    clear hS hT hE h2 HT
    generalize hsl : zs.length = sl
    clear hsl
    have HBa : Hid (∀ o o', Below w.heap.size w (((w.alloc o).alloc o').drew)) := fun o o' => bl_drew (bl_alloc (HB.out o) o')
    have cX : ∀ o, (w.alloc o).cell? ⟨xb, xo, none⟩ = some (.int .i64 x0) := fun o => cell_below (HB.out o) hX
    have cY : ∀ o, (w.alloc o).cell? ⟨xb, xo + 1, none⟩ = some (.int .i64 x1) := fun o => cell_below (HB.out o) hY
    clear hX hY
    simp only [List.length_cons, List.length_nil, Nat.zero_add]
    go_enter Tryz.func37, Tryz.ntmps37
    go_upto_region 9 with fail
    go_region
    go_wp2
    go_ret2
    exact ⟨⟨_, _, rfl, HSl.out _ _ (by simp)⟩, HBa.out _ _⟩
  rw [if_neg h2]
  have g2 := isw_b (show isw op lTranspose = false by simpa using h2)
  clear h2
  by_cases h3 : isw op lSum = true
  · rw [if_pos h3]
    have g3 := isw_b h3
    clear h3
    clear hS hT hE
    generalize hsl : zs.length = sl
    clear hsl
    obtain ⟨xl, hxl⟩ : ∃ m, xs.length = m := ⟨_, rfl⟩
    have HXL : Hid _ := hxl
    rw [hxl]
    clear hxl
    go_enter Tryz.func37, Tryz.ntmps37
    go_wp2
    go_ret2
    exact ⟨⟨_, _, rfl, Sp.Sl.nil _ _⟩, HB.out _⟩
  rw [if_neg h3]
  have g3 := isw_b (show isw op lSum = false by simpa using h3)
  clear h3
  by_cases h4 : isw op lReshape = true
  · rw [if_pos h4]
    have g4 := isw_b h4
    clear h4
    obtain ⟨m1, hm1⟩ : ∃ k : Nat, Sp.szI zs = k := ⟨_, rfl⟩
    obtain ⟨m2, hm2⟩ : ∃ k : Nat, Sp.szI xs = k := ⟨_, rfl⟩
    have HZ : Hid (∀ v, Below w.heap.size w v → Calls Tryz.prog 39 #[.slice sa zs.length sc] v fun e w' => e = .returned (.int .i64 (m1 : Nat)) ∧ w' = v) := fun v hv => hm1 ▸ Sp.size_any sa zs sc v hzs (sl_below hS hv)
    have HX : Hid (∀ v, Below w.heap.size w v → Calls Tryz.prog 39 #[.slice aa xs.length ac] v fun e w' => e = .returned (.int .i64 (m2 : Nat)) ∧ w' = v) := fun v hv => hm2 ▸ Sp.size_any aa xs ac v hxs (sl_below hT hv)
    have HT2 : Hid (∀ v, Below w.heap.size w v → ∀ a n c m, (a = sa ∧ n = zs.length ∧ c = sc ∧ m = m1) ∨ (a = aa ∧ n = xs.length ∧ c = ac ∧ m = m2) → Calls Tryz.prog 39 #[.slice a n c] v fun e w' => e = .returned (.int .i64 (m : Nat)) ∧ w' = v) := fun v hv a n c m h => by
      rcases h with ⟨rfl, rfl, rfl, rfl⟩ | ⟨rfl, rfl, rfl, rfl⟩
      · exact HZ.out v hv
      · exact HX.out v hv
    clear HZ HX
    rw [hm1, hm2]
    clear hm1 hm2 hS hT hE
    obtain ⟨sl, hsl⟩ : ∃ m, zs.length = m := ⟨_, rfl⟩
    have HSL : Hid _ := hsl
    rw [hsl] at HT2 ⊢
    clear hsl
    obtain ⟨xl, hxl⟩ : ∃ m, xs.length = m := ⟨_, rfl⟩
    rw [hxl] at HT2 ⊢
    clear hxl
    by_cases he : m1 = m2
    · rw [if_pos he]
      subst he
      go_enter Tryz.func37, Tryz.ntmps37
      go_upto_region 13 with fail
      go_quiet ((go_at_call 39; exact Calls.quiet_of_same (HT2.out _ (bl_n (HB.out _) _) _ _ _ _ (by first | exact Or.inl ⟨rfl, rfl, rfl, rfl⟩ | exact Or.inr ⟨rfl, rfl, rfl, rfl⟩))))
      go_wp2
      go_ret2
      exact ⟨⟨sa, sc, by rw [HSL.out]; rfl, HS.out _ (bl_n (HB.out _) _)⟩, bl_n (HB.out _) _⟩
    · rw [if_neg he]
      have he1 : ((m1 : Int) != (m2 : Int)) = true := by simp; omega
      have he2 : ((m1 : Int) == (m2 : Int)) = false := by simp; omega
      go_enter Tryz.func37, Tryz.ntmps37
      go_upto_region 13 with fail
      go_quiet ((go_at_call 39; exact Calls.quiet_of_same (HT2.out _ (bl_n (HB.out _) _) _ _ _ _ (by first | exact Or.inl ⟨rfl, rfl, rfl, rfl⟩ | exact Or.inr ⟨rfl, rfl, rfl, rfl⟩))))
      go_wp2
      go_ret2
      exact ⟨⟨_, _, _, rfl⟩, bl_n (HB.out _) _⟩
  rw [if_neg h4]
  have g4 := isw_b (show isw op lReshape = false by simpa using h4)
  clear h4
  by_cases h5 : isw op lSpread = true
  · rw [if_pos h5]
    have g5 := isw_b h5
    clear h5
    clear hS hT hE
    obtain ⟨sl, hsl⟩ : ∃ m, zs.length = m := ⟨_, rfl⟩
    have HSL : Hid _ := hsl
    rw [hsl]
    clear hsl
    obtain ⟨xl, hxl⟩ : ∃ m, xs.length = m := ⟨_, rfl⟩
    rw [hxl]
    clear hxl
    by_cases h0 : xl = 0
    · rw [if_pos h0]
      go_enter Tryz.func37, Tryz.ntmps37
      go_wp2
      go_ret2
      exact ⟨⟨sa, sc, by rw [HSL.out]; rfl, HS.out _ (HB.out _)⟩, HB.out _⟩
    · rw [if_neg h0]
      have h01 : ((xl : Int) == 0) = false := by simp; omega
      go_enter Tryz.func37, Tryz.ntmps37
      go_wp2
      go_ret2
      exact ⟨⟨_, _, _, rfl⟩, HB.out _⟩
  rw [if_neg h5]
  have g5 := isw_b (show isw op lSpread = false by simpa using h5)
  clear h5
  clear hS hT hE
  generalize hsl : zs.length = sl
  clear hsl
  obtain ⟨xl, hxl⟩ : ∃ m, xs.length = m := ⟨_, rfl⟩
  have HXL : Hid _ := hxl
  rw [hxl]
  clear hxl
  go_enter Tryz.func37, Tryz.ntmps37
  go_wp2
  go_ret2
  exact ⟨⟨aa, ac, by rw [HXL.out]; rfl, HT.out _ (HB.out _)⟩, HB.out _⟩
end Go.Proofs.YtadgnafafdfioaaGreatDoor.Gr
/-
  pair: THE SHAPE OF A NODE OF TWO PARTS. Conditions: each theorem's own.
-/
namespace Go.Proofs.YtadgnafafdfioaaGreatDoor.Gr
open Go.Proofs.YtadgnafafdfioaaGreatDoor.Rd
set_option maxRecDepth 100000
open Go.RowKit
set_option linter.unusedVariables false
set_option linter.unusedSimpArgs false

theorem sl_l3 {w : World} {a : Option Addr} {x y : Int} (h : Sp.Sl w a [x, y]) : ∃ b off, a = some ⟨b, off, none⟩ ∧ w.cell? ⟨b, off, none⟩ = some (.int .i64 x) ∧ w.cell? ⟨b, off + 1, none⟩ = some (.int .i64 y) := by
  obtain ⟨b, off, e, h0⟩ := h 0 (by simp)
  obtain ⟨b', off', e', h1⟩ := h 1 (by simp)
  rw [e] at e'
  simp at e'
  obtain ⟨rfl, rfl⟩ := e'
  exact ⟨b, off, e, h0, h1⟩
theorem len_t3 {xs : List Int} (h : xs.length = 2) : ∃ x y, xs = [x, y] := by
  match xs, h with
  | [x, y], _ => exact ⟨x, y, rfl⟩

set_option maxHeartbeats 4000000 in
theorem pair_any (op : ByteArray) (xs ys : List Int) (ac bc : Nat) (aa ba : Option Addr) (w : World) (hT : Sp.Sl w aa xs) (hU : Sp.Sl w ba ys) (hxs : xs.length ≤ 1000) (hys : ys.length ≤ 1000) :
    Calls Tryz.prog 38 #[.string op, .slice aa xs.length ac, .slice ba ys.length bc] w fun e w' => Shp w' (pai op xs ys) e ∧ Below w.heap.size w w' := by
  unfold pai
  have HT : Hid (∀ v, Below w.heap.size w v → Sp.Sl v aa xs) := fun v hv => sl_below hT hv
  have HR : Hid (Below w.heap.size w w) := Below.refl _ _
  by_cases h0 : isw op lMatmul = true
  rotate_left
  · rw [if_neg h0]
    have g0 := isw_b (show isw op lMatmul = false by simpa using h0)
    have hc := Sp.same_any aa ba xs ys ac bc w hxs hys hT hU
    by_cases he : xs = ys
    · rw [if_pos he]
      rw [decide_eq_true he] at hc
      clear h0 he hT hU
      obtain ⟨xl, hxl⟩ : ∃ m, xs.length = m := ⟨_, rfl⟩
      have HXL : Hid _ := hxl
      rw [hxl] at hc ⊢
      clear hxl
      generalize ys.length = yl at hc ⊢
      go_enter Tryz.func38, Tryz.ntmps38
      go_wp2_with fail
      refine hc.mono ?_
      rintro e w1 ⟨rfl, hs⟩
      have HS : Hid _ := hs.below w.heap.size
      clear hs
      go_wp2
      go_ret2
      exact ⟨⟨aa, ac, by rw [HXL.out]; rfl, HT.out _ HS.out⟩, HS.out⟩
    · rw [if_neg he]
      rw [decide_eq_false he] at hc
      clear h0 he hT hU HT
      generalize xs.length = xl at hc ⊢
      generalize ys.length = yl at hc ⊢
      go_enter Tryz.func38, Tryz.ntmps38
      go_wp2_with fail
      refine hc.mono ?_
      rintro e w1 ⟨rfl, hs⟩
      have HS : Hid _ := hs.below w.heap.size
      clear hs
      go_wp2
      go_ret2
      exact ⟨⟨_, _, _, rfl⟩, HS.out⟩
  rw [if_pos h0]
  have g0 := isw_b h0
  clear h0
  by_cases h2 : xs.length = 2
  rotate_left
  · rw [if_neg fun c => h2 c.1]
    have hx1 : ((xs.length : Int) != 2) = true := by simp; omega
    have hx2 : ((xs.length : Int) == 2) = false := by simp; omega
    clear hT hU HT
    generalize xs.length = xl at *
    generalize ys.length = yl at *
    go_enter Tryz.func38, Tryz.ntmps38
    go_upto_region 3 with fail
    go_quiet (fail)
    go_wp2
    go_ret2
    exact ⟨⟨_, _, _, rfl⟩, bl_n HR.out _⟩
  obtain ⟨x0, x1, rfl⟩ := len_t3 h2
  obtain ⟨xb, xo, rfl, hX, hY⟩ := sl_l3 hT
  by_cases h3 : ys.length = 2
  rotate_left
  · rw [if_neg fun c => h3 c.2.1]
    have hx1 : ((ys.length : Int) != 2) = true := by simp; omega
    have hx2 : ((ys.length : Int) == 2) = false := by simp; omega
    clear hT hU HT
    generalize ys.length = yl at *
    simp only [List.length_cons, List.length_nil, Nat.zero_add]
    go_enter Tryz.func38, Tryz.ntmps38
    go_upto_region 3 with fail
    go_quiet (fail)
    go_wp2
    go_ret2
    exact ⟨⟨_, _, _, rfl⟩, bl_n HR.out _⟩
  obtain ⟨y0, y1, rfl⟩ := len_t3 h3
  obtain ⟨yb, yo, rfl, hZ, hV⟩ := sl_l3 hU
  by_cases hxy : x1 = y0
  rotate_left
  · rw [if_neg fun c => hxy c.2.2]
    clear hT hU HT h2 h3
    simp only [List.length_cons, List.length_nil, Nat.zero_add]
    go_enter Tryz.func38, Tryz.ntmps38
    go_upto_region 3 with fail
    go_quiet (fail)
    go_wp2
    go_ret2
    exact ⟨⟨_, _, _, rfl⟩, bl_n HR.out _⟩
  rw [if_pos ⟨h2, h3, hxy⟩]
  subst hxy
  have HSl : Hid (∀ v : World, Sp.Sl (v.alloc (.cells #[.int .i64 x0, .int .i64 y1] 3)) (some ⟨v.heap.size, 0, none⟩) [x0, y1]) := fun v => sl_two v _ _
  have HBa : Hid (∀ n o, Below w.heap.size w ((w.drewN n).alloc o)) := fun n o => (bl_n HR.out n).alloc HR.out.size o
  clear hT hU HT h2 h3
  simp only [List.length_cons, List.length_nil, Nat.zero_add]
  go_enter Tryz.func38, Tryz.ntmps38
  go_upto_region 3 with fail
  go_quiet (fail)
  go_upto_region 5 with fail
  go_region
  go_wp2
  go_ret2
  exact ⟨⟨_, _, rfl, HSl.out _⟩, HBa.out _ _⟩
end Go.Proofs.YtadgnafafdfioaaGreatDoor.Gr
