/-
  THE WALK OF ReadOne: the call gives true. Conditions: the theorem's own (what the argument holds; the package's error stands where it was laid).
-/
import Derived.Test.YtokfkmncabmmcaaDoorRe9
import Derived.Test.YtokfkmncabmmcaaDoorPn
import Derived.Test.YtokfkmncabmmcaaDoorWo9
import Derived.Deep.Cut
namespace Go.Proofs.YtokfkmncabmmcaaDoor.Rd
set_option maxRecDepth 100000
open Go.RowKit
set_option linter.unusedVariables false
set_option linter.unusedSimpArgs false


set_option maxHeartbeats 4000000 in
theorem readOne_add (ao : Option Addr) (zs : List ByteArray) (c : Nat) (aF aZ : Addr) (w : World) (hE : Er w aF aZ) (hS : Row w ao (txts zs)) (hcap : zs.length ≤ c) (hcm : c ≤ maxLen) (h90 : zs.length ≤ 90) (hall : ∀ y ∈ zs, y.size ≤ 40) (s : Sm) (hp : par zs = some s) (ho : isw s.op [97, 100, 100] = true) (h0 : s.args ≠ []) :
    Calls Tryd.prog 3 #[.slice ao zs.length c] w fun e w' => e = .returned (.bool true) ∧ Below w.heap.size w w' := by
  have hz : zs = s.name :: str lEq :: s.op :: s.args := by
    rcases back_plain hp (by rw [isw_eq ho]; rfl) (by rw [isw_eq ho]; rfl) with h | h
    · exact absurd h h0
    · exact h
  obtain ⟨name, op, args, dims, K, n, data⟩ := s
  obtain rfl := isw_eq ho
  simp only at hz h0
  have HZ : Hid _ := hz
  have HM1 : Hid (1 ≤ args.length) := by show 1 ≤ _; cases args with | nil => exact absurd rfl h0 | cons _ _ => simp
  have HM : Hid (zs.length = args.length + 3) := by rw [hz]; simp [Hid]
  clear hz ho h0
  have HA : Hid (∀ v, Below w.heap.size w v → Calls Tryd.prog 6 #[] v fun e w' => e = .returned (.bool true) ∧ Below v.heap.size v w') := fun v hv => awake_any aF aZ v (hE.below hv)
  have HP : Hid (∀ v, Below w.heap.size w v → Calls Tryd.prog 7 #[.agg #[.int .i64 1, .slice ao zs.length c]] v fun e w' => Po w' v.heap.size (some ⟨name, ⟨[97, 100, 100].toArray⟩, args, dims, K, n, data⟩) e ∧ Below v.heap.size v w') := by
    intro v hv
    have := Parse_any 1 zs ao c aF aZ v (hE.below hv) (hS.below hv) (by omega) hcap hcm (fun y hy => by have := hall y hy; omega)
    rw [hp] at this
    exact this
  have HR : Hid (∀ v, Below w.heap.size w v → ∀ i, i < zs.length → ∃ b off, ao = some ⟨b, off, none⟩ ∧ v.cell? ⟨b, off + i, none⟩ = some (.string (zs.getD i em))) := fun v hv i hi => row_str (hS.below hv) hi
  have HX : Hid (∀ i, i < zs.length → (zs.getD i em).size ≤ 40) := fun i hi => hall _ (by simp [List.getD, hi])
  clear hS hE hall hp
  obtain ⟨N, hN⟩ : ∃ N, zs.length = N := ⟨_, rfl⟩
  have HN : Hid (zs.length = N) := hN
  rw [hN] at HP HR HX hcap h90 HM ⊢
  clear hN
  go_enter Tryd.func3, Tryd.ntmps3
  go_wp2_with fail
  go_loop [15] (fun i => ∃ k : Nat, k ≤ N ∧ i = .int .i64 (k : Int)) (fun i => N - (intOf i).toNat)
  case atStart => exact ⟨0, by omega, rfl⟩
  case round =>
    obtain ⟨k, hk, rfl⟩ := hrel
    by_cases h : k < N
    · obtain ⟨b, off, rfl, hc⟩ := HR.out w (Below.refl _ _) k h
      have h40 := HX.out k h
      obtain ⟨x, hx⟩ : ∃ z, zs.getD k em = z := ⟨_, rfl⟩
      rw [hx] at hc h40
      clear hx
      go_wp2
      go_round
      case rel => exact ⟨k + 1, by omega, by go_num⟩
      case measure => simp [intOf]; omega
    · obtain rfl : k = N := by omega
      clear HX h hk
      go_wp2_with fail
      refine (HP.out _ (Below.refl _ _)).mono ?_
      rintro e w1 ⟨⟨u, rfl, hU⟩, hB1⟩
      obtain ⟨ua, ud, ut, rfl, hUa, hUd, hUt⟩ := hU
      obtain ⟨dz, dc, rfl, -⟩ := hUd.form
      obtain ⟨tz, tc, rfl, -⟩ := hUt.form
      obtain ⟨az, ac, rfl, hAr, -⟩ := hUa.form
      have HB1 : Hid _ := hB1
      clear hB1 HP hUd hUt
      obtain ⟨b, off, hb, -⟩ := row_str hAr (i := 0) (by have := HM1.out; show 0 < args.length; omega)
      obtain rfl := hb
      have hc : Row w1 (some ⟨b, off, none⟩) (txts args) := hAr
      obtain ⟨m, hm⟩ : ∃ m, args.length = m := ⟨_, rfl⟩
      have hm3 : args.length = m := hm
      have HA2 : Hid (args.length = m) := hm
      have hm1 : 1 ≤ m := by rw [← hm]; exact HM1.out
      simp only [hm]
      clear hUa hAr hm hm3
      go_upto_region 23 with fail
      obtain ⟨W2, hW2, HB2, hc2, q0, q1, q2, q4, q5⟩ : ∃ W2, (w1.alloc (.cells #[.string name, .string ⟨#[97, 100, 100]⟩, .slice (some ⟨b, off, none⟩) m ac, .slice dz dims.length dc, .string K, .int .i64 (n : Int), .slice tz data.length tc] 26)) = W2 ∧ Hid (Below w.heap.size w W2) ∧ Hid (Row W2 (some ⟨b, off, none⟩) (txts args)) ∧ W2.cell? ⟨w1.heap.size, 0, none⟩ = some (.string name) ∧ W2.cell? ⟨w1.heap.size, 1, none⟩ = some (.string ⟨#[97, 100, 100]⟩) ∧ W2.cell? ⟨w1.heap.size, 2, none⟩ = some (.slice (some ⟨b, off, none⟩) m ac) ∧ W2.cell? ⟨w1.heap.size, 4, none⟩ = some (.string K) ∧ W2.cell? ⟨w1.heap.size, 5, none⟩ = some (.int .i64 (n : Int)) := ⟨_, rfl, HB1.out.alloc HB1.out.size _, hc.below ((Below.refl _ _).alloc (Nat.le_refl _) _), by rw [World.cell?_alloc_new]; rfl, by rw [World.cell?_alloc_new]; rfl, by rw [World.cell?_alloc_new]; rfl, by rw [World.cell?_alloc_new]; rfl, by rw [World.cell?_alloc_new]; rfl⟩
      rw [hW2]
      clear hW2 hc
      obtain ⟨p, hp⟩ : ∃ p, w1.heap.size = p := ⟨_, rfl⟩
      rw [hp] at q0 q1 q2 q4 q5 ⊢
      clear hp HB1
      have r0 := fun o => cell_below ((Below.refl W2.heap.size W2).alloc (Nat.le_refl _) o) q0
      have r1 := fun o => cell_below ((Below.refl W2.heap.size W2).alloc (Nat.le_refl _) o) q1
      have r2 := fun o => cell_below ((Below.refl W2.heap.size W2).alloc (Nat.le_refl _) o) q2
      have r4 := fun o => cell_below ((Below.refl W2.heap.size W2).alloc (Nat.le_refl _) o) q4
      have r5 := fun o => cell_below ((Below.refl W2.heap.size W2).alloc (Nat.le_refl _) o) q5
      have rc2 : Hid (∀ o, Row (W2.alloc o) (some ⟨b, off, none⟩) (txts args)) := fun o => hc2.out.below ((Below.refl W2.heap.size W2).alloc (Nat.le_refl _) o)
      obtain ⟨i9, hi9, hy0, hy1, hy2⟩ := info_parts inf9
      have hm9 : m ≤ 90 := by have h1 := HM.out; have h2 := HA2.out; omega
      have hex : (txts args).length = m := by rw [← HA2.out]; simp [txts]
      have HEX : Hid _ := hex
      clear hex
      go_wp2_with (first | (at_builtin; refine wpList_append_own _ rfl _ _ 22 rfl W2.heap.size 9 i9 _ 1 16 Tryd.underlying22 hi9 hy0 hy1 hy2 rfl (by decide) _ 3 [.string name, .string ⟨#[61]⟩, .string ⟨#[97, 100, 100]⟩] rfl (own_three' W2 W2.heap.size 9 _ _ _ (Nat.le_refl _)) ⟨b, off, none⟩ m ac (txts args) rfl (by rw [HEX.out]; omega) ?_ ?_ ?_ ?_ ?_ ?_))
      · exact (rc2.out _).news
      · intro x hx
        obtain ⟨y, -, rfl⟩ := List.mem_map.1 hx
        rfl
      · unfold maxLen; omega
      · omega
      · simp
      · intro v' W3 hown hgrow _
        obtain ⟨ga, gc, rfl, hGr, -, -, -, hG0⟩ := Row.of_own hown
        obtain ⟨gb, goff, hge, -⟩ := hGr 0 _ rfl
        obtain rfl := hge
        obtain ⟨rfl, -⟩ := hG0 gb goff none rfl
        have HG : Hid (∀ v, Below W3.heap.size W3 v → ∀ i, i < k → ∃ o, v.cell? ⟨gb, o + i, none⟩ = some (.string (zs.getD i em)) ∧ o = 0) := by
          intro v hv i hi
          have hr : Row W3 (some ⟨gb, 0, none⟩) (txts zs) := by rw [HZ.out]; exact hGr
          obtain ⟨b, o, e, h⟩ := row_str (hr.below hv) (i := i) (by rw [HN.out]; exact hi)
          cases e
          exact ⟨0, h, rfl⟩
        have HB3 : Hid (Below w.heap.size w W3) := (HB2.out.alloc HB2.out.size _).grown hgrow (by have := HB2.out.size; simp; omega) (fun x hx => by have := HB2.out.size; cases hx; omega)
        have hk5 : k = 3 + m := by have h1 := HM.out; have h2 := HA2.out; omega
        clear hown hgrow hGr hG0 HB2 hc2 q0 q1 q2 q4 q5 r0 r1 r2 r4 r5 rc2 hi9 hy0 hy1 hy2
        subst hk5
        go_wp2_with fail
        go_loopw [101] (fun i wr => ∃ j : Nat, j ≤ (3 + m) ∧ i = .int .i64 (j : Int) ∧ Below W3.heap.size W3 wr) (fun i _ => (3 + m) - (intOf i).toNat)
        case atStart => exact ⟨0, by omega, rfl, Below.refl _ _⟩
        case round =>
          obtain ⟨j, hj, rfl, hBr⟩ := hrel
          by_cases h : j < (3 + m)
          · obtain ⟨b, off, rfl, hc⟩ := HR.out _ (HB3.out.trans (hBr.mono HB3.out.size)) j h
            obtain ⟨_, hgc, rfl⟩ := HG.out _ hBr j h
            obtain ⟨x, hx⟩ : ∃ z, zs.getD j em = z := ⟨_, rfl⟩
            rw [hx] at hc hgc
            rw [Nat.zero_add] at hgc
            clear hx
            go_wp2_with fail
            go_region
            go_wp2
            go_roundw
            case rel => exact ⟨j + 1, by omega, by go_num, hBr.drew⟩
            case measure => simp [intOf]; omega
          · obtain rfl : j = (3 + m) := by omega
            have HB4 : Hid _ := HB3.out.trans (hBr.mono HB3.out.size)
            clear hBr h hj
            go_wp2_with fail
            refine (HA.out _ HB4.out).mono ?_
            rintro e wz ⟨rfl, hBz⟩
            have HBz : Hid _ := HB4.out.trans (hBz.mono HB4.out.size)
            clear hBz
            go_wp2
            go_ret
            exact ⟨rfl, HBz.out⟩

set_option maxHeartbeats 4000000 in
theorem readOne_relu (ao : Option Addr) (zs : List ByteArray) (c : Nat) (aF aZ : Addr) (w : World) (hE : Er w aF aZ) (hS : Row w ao (txts zs)) (hcap : zs.length ≤ c) (hcm : c ≤ maxLen) (h90 : zs.length ≤ 90) (hall : ∀ y ∈ zs, y.size ≤ 40) (s : Sm) (hp : par zs = some s) (ho : isw s.op [114, 101, 108, 117] = true) (h0 : s.args ≠ []) :
    Calls Tryd.prog 3 #[.slice ao zs.length c] w fun e w' => e = .returned (.bool true) ∧ Below w.heap.size w w' := by
  have hz : zs = s.name :: str lEq :: s.op :: s.args := by
    rcases back_plain hp (by rw [isw_eq ho]; rfl) (by rw [isw_eq ho]; rfl) with h | h
    · exact absurd h h0
    · exact h
  obtain ⟨name, op, args, dims, K, n, data⟩ := s
  obtain rfl := isw_eq ho
  simp only at hz h0
  have HZ : Hid _ := hz
  have HM1 : Hid (1 ≤ args.length) := by show 1 ≤ _; cases args with | nil => exact absurd rfl h0 | cons _ _ => simp
  have HM : Hid (zs.length = args.length + 3) := by rw [hz]; simp [Hid]
  clear hz ho h0
  have HA : Hid (∀ v, Below w.heap.size w v → Calls Tryd.prog 6 #[] v fun e w' => e = .returned (.bool true) ∧ Below v.heap.size v w') := fun v hv => awake_any aF aZ v (hE.below hv)
  have HP : Hid (∀ v, Below w.heap.size w v → Calls Tryd.prog 7 #[.agg #[.int .i64 1, .slice ao zs.length c]] v fun e w' => Po w' v.heap.size (some ⟨name, ⟨[114, 101, 108, 117].toArray⟩, args, dims, K, n, data⟩) e ∧ Below v.heap.size v w') := by
    intro v hv
    have := Parse_any 1 zs ao c aF aZ v (hE.below hv) (hS.below hv) (by omega) hcap hcm (fun y hy => by have := hall y hy; omega)
    rw [hp] at this
    exact this
  have HR : Hid (∀ v, Below w.heap.size w v → ∀ i, i < zs.length → ∃ b off, ao = some ⟨b, off, none⟩ ∧ v.cell? ⟨b, off + i, none⟩ = some (.string (zs.getD i em))) := fun v hv i hi => row_str (hS.below hv) hi
  have HX : Hid (∀ i, i < zs.length → (zs.getD i em).size ≤ 40) := fun i hi => hall _ (by simp [List.getD, hi])
  clear hS hE hall hp
  obtain ⟨N, hN⟩ : ∃ N, zs.length = N := ⟨_, rfl⟩
  have HN : Hid (zs.length = N) := hN
  rw [hN] at HP HR HX hcap h90 HM ⊢
  clear hN
  go_enter Tryd.func3, Tryd.ntmps3
  go_wp2_with fail
  go_loop [15] (fun i => ∃ k : Nat, k ≤ N ∧ i = .int .i64 (k : Int)) (fun i => N - (intOf i).toNat)
  case atStart => exact ⟨0, by omega, rfl⟩
  case round =>
    obtain ⟨k, hk, rfl⟩ := hrel
    by_cases h : k < N
    · obtain ⟨b, off, rfl, hc⟩ := HR.out w (Below.refl _ _) k h
      have h40 := HX.out k h
      obtain ⟨x, hx⟩ : ∃ z, zs.getD k em = z := ⟨_, rfl⟩
      rw [hx] at hc h40
      clear hx
      go_wp2
      go_round
      case rel => exact ⟨k + 1, by omega, by go_num⟩
      case measure => simp [intOf]; omega
    · obtain rfl : k = N := by omega
      clear HX h hk
      go_wp2_with fail
      refine (HP.out _ (Below.refl _ _)).mono ?_
      rintro e w1 ⟨⟨u, rfl, hU⟩, hB1⟩
      obtain ⟨ua, ud, ut, rfl, hUa, hUd, hUt⟩ := hU
      obtain ⟨dz, dc, rfl, -⟩ := hUd.form
      obtain ⟨tz, tc, rfl, -⟩ := hUt.form
      obtain ⟨az, ac, rfl, hAr, -⟩ := hUa.form
      have HB1 : Hid _ := hB1
      clear hB1 HP hUd hUt
      obtain ⟨b, off, hb, -⟩ := row_str hAr (i := 0) (by have := HM1.out; show 0 < args.length; omega)
      obtain rfl := hb
      have hc : Row w1 (some ⟨b, off, none⟩) (txts args) := hAr
      obtain ⟨m, hm⟩ : ∃ m, args.length = m := ⟨_, rfl⟩
      have hm3 : args.length = m := hm
      have HA2 : Hid (args.length = m) := hm
      have hm1 : 1 ≤ m := by rw [← hm]; exact HM1.out
      simp only [hm]
      clear hUa hAr hm hm3
      go_upto_region 23 with fail
      obtain ⟨W2, hW2, HB2, hc2, q0, q1, q2, q4, q5⟩ : ∃ W2, (w1.alloc (.cells #[.string name, .string ⟨#[114, 101, 108, 117]⟩, .slice (some ⟨b, off, none⟩) m ac, .slice dz dims.length dc, .string K, .int .i64 (n : Int), .slice tz data.length tc] 26)) = W2 ∧ Hid (Below w.heap.size w W2) ∧ Hid (Row W2 (some ⟨b, off, none⟩) (txts args)) ∧ W2.cell? ⟨w1.heap.size, 0, none⟩ = some (.string name) ∧ W2.cell? ⟨w1.heap.size, 1, none⟩ = some (.string ⟨#[114, 101, 108, 117]⟩) ∧ W2.cell? ⟨w1.heap.size, 2, none⟩ = some (.slice (some ⟨b, off, none⟩) m ac) ∧ W2.cell? ⟨w1.heap.size, 4, none⟩ = some (.string K) ∧ W2.cell? ⟨w1.heap.size, 5, none⟩ = some (.int .i64 (n : Int)) := ⟨_, rfl, HB1.out.alloc HB1.out.size _, hc.below ((Below.refl _ _).alloc (Nat.le_refl _) _), by rw [World.cell?_alloc_new]; rfl, by rw [World.cell?_alloc_new]; rfl, by rw [World.cell?_alloc_new]; rfl, by rw [World.cell?_alloc_new]; rfl, by rw [World.cell?_alloc_new]; rfl⟩
      rw [hW2]
      clear hW2 hc
      obtain ⟨p, hp⟩ : ∃ p, w1.heap.size = p := ⟨_, rfl⟩
      rw [hp] at q0 q1 q2 q4 q5 ⊢
      clear hp HB1
      have r0 := fun o => cell_below ((Below.refl W2.heap.size W2).alloc (Nat.le_refl _) o) q0
      have r1 := fun o => cell_below ((Below.refl W2.heap.size W2).alloc (Nat.le_refl _) o) q1
      have r2 := fun o => cell_below ((Below.refl W2.heap.size W2).alloc (Nat.le_refl _) o) q2
      have r4 := fun o => cell_below ((Below.refl W2.heap.size W2).alloc (Nat.le_refl _) o) q4
      have r5 := fun o => cell_below ((Below.refl W2.heap.size W2).alloc (Nat.le_refl _) o) q5
      have rc2 : Hid (∀ o, Row (W2.alloc o) (some ⟨b, off, none⟩) (txts args)) := fun o => hc2.out.below ((Below.refl W2.heap.size W2).alloc (Nat.le_refl _) o)
      obtain ⟨i9, hi9, hy0, hy1, hy2⟩ := info_parts inf9
      have hm9 : m ≤ 90 := by have h1 := HM.out; have h2 := HA2.out; omega
      have hex : (txts args).length = m := by rw [← HA2.out]; simp [txts]
      have HEX : Hid _ := hex
      clear hex
      go_wp2_with (first | (at_builtin; refine wpList_append_own _ rfl _ _ 22 rfl W2.heap.size 9 i9 _ 1 16 Tryd.underlying22 hi9 hy0 hy1 hy2 rfl (by decide) _ 3 [.string name, .string ⟨#[61]⟩, .string ⟨#[114, 101, 108, 117]⟩] rfl (own_three' W2 W2.heap.size 9 _ _ _ (Nat.le_refl _)) ⟨b, off, none⟩ m ac (txts args) rfl (by rw [HEX.out]; omega) ?_ ?_ ?_ ?_ ?_ ?_))
      · exact (rc2.out _).news
      · intro x hx
        obtain ⟨y, -, rfl⟩ := List.mem_map.1 hx
        rfl
      · unfold maxLen; omega
      · omega
      · simp
      · intro v' W3 hown hgrow _
        obtain ⟨ga, gc, rfl, hGr, -, -, -, hG0⟩ := Row.of_own hown
        obtain ⟨gb, goff, hge, -⟩ := hGr 0 _ rfl
        obtain rfl := hge
        obtain ⟨rfl, -⟩ := hG0 gb goff none rfl
        have HG : Hid (∀ v, Below W3.heap.size W3 v → ∀ i, i < k → ∃ o, v.cell? ⟨gb, o + i, none⟩ = some (.string (zs.getD i em)) ∧ o = 0) := by
          intro v hv i hi
          have hr : Row W3 (some ⟨gb, 0, none⟩) (txts zs) := by rw [HZ.out]; exact hGr
          obtain ⟨b, o, e, h⟩ := row_str (hr.below hv) (i := i) (by rw [HN.out]; exact hi)
          cases e
          exact ⟨0, h, rfl⟩
        have HB3 : Hid (Below w.heap.size w W3) := (HB2.out.alloc HB2.out.size _).grown hgrow (by have := HB2.out.size; simp; omega) (fun x hx => by have := HB2.out.size; cases hx; omega)
        have hk5 : k = 3 + m := by have h1 := HM.out; have h2 := HA2.out; omega
        clear hown hgrow hGr hG0 HB2 hc2 q0 q1 q2 q4 q5 r0 r1 r2 r4 r5 rc2 hi9 hy0 hy1 hy2
        subst hk5
        go_wp2_with fail
        go_loopw [101] (fun i wr => ∃ j : Nat, j ≤ (3 + m) ∧ i = .int .i64 (j : Int) ∧ Below W3.heap.size W3 wr) (fun i _ => (3 + m) - (intOf i).toNat)
        case atStart => exact ⟨0, by omega, rfl, Below.refl _ _⟩
        case round =>
          obtain ⟨j, hj, rfl, hBr⟩ := hrel
          by_cases h : j < (3 + m)
          · obtain ⟨b, off, rfl, hc⟩ := HR.out _ (HB3.out.trans (hBr.mono HB3.out.size)) j h
            obtain ⟨_, hgc, rfl⟩ := HG.out _ hBr j h
            obtain ⟨x, hx⟩ : ∃ z, zs.getD j em = z := ⟨_, rfl⟩
            rw [hx] at hc hgc
            rw [Nat.zero_add] at hgc
            clear hx
            go_wp2_with fail
            go_region
            go_wp2
            go_roundw
            case rel => exact ⟨j + 1, by omega, by go_num, hBr.drew⟩
            case measure => simp [intOf]; omega
          · obtain rfl : j = (3 + m) := by omega
            have HB4 : Hid _ := HB3.out.trans (hBr.mono HB3.out.size)
            clear hBr h hj
            go_wp2_with fail
            refine (HA.out _ HB4.out).mono ?_
            rintro e wz ⟨rfl, hBz⟩
            have HBz : Hid _ := HB4.out.trans (hBz.mono HB4.out.size)
            clear hBz
            go_wp2
            go_ret
            exact ⟨rfl, HBz.out⟩

set_option maxHeartbeats 4000000 in
theorem readOne_loss (ao : Option Addr) (zs : List ByteArray) (c : Nat) (aF aZ : Addr) (w : World) (hE : Er w aF aZ) (hS : Row w ao (txts zs)) (hcap : zs.length ≤ c) (hcm : c ≤ maxLen) (h90 : zs.length ≤ 90) (hall : ∀ y ∈ zs, y.size ≤ 40) (s : Sm) (hp : par zs = some s) (ho : isw s.op [108, 111, 115, 115] = true) (h0 : s.args ≠ []) :
    Calls Tryd.prog 3 #[.slice ao zs.length c] w fun e w' => e = .returned (.bool true) ∧ Below w.heap.size w w' := by
  have hz : zs = s.op :: s.args := by
    rcases back_loss hp ho with h | h
    · exact absurd h h0
    · exact h
  obtain ⟨name, op, args, dims, K, n, data⟩ := s
  obtain rfl := isw_eq ho
  simp only at hz h0
  have HZ : Hid _ := hz
  have HM1 : Hid (1 ≤ args.length) := by show 1 ≤ _; cases args with | nil => exact absurd rfl h0 | cons _ _ => simp
  have HM : Hid (zs.length = args.length + 1) := by rw [hz]; simp [Hid]
  clear hz ho h0
  have HA : Hid (∀ v, Below w.heap.size w v → Calls Tryd.prog 6 #[] v fun e w' => e = .returned (.bool true) ∧ Below v.heap.size v w') := fun v hv => awake_any aF aZ v (hE.below hv)
  have HP : Hid (∀ v, Below w.heap.size w v → Calls Tryd.prog 7 #[.agg #[.int .i64 1, .slice ao zs.length c]] v fun e w' => Po w' v.heap.size (some ⟨name, ⟨[108, 111, 115, 115].toArray⟩, args, dims, K, n, data⟩) e ∧ Below v.heap.size v w') := by
    intro v hv
    have := Parse_any 1 zs ao c aF aZ v (hE.below hv) (hS.below hv) (by omega) hcap hcm (fun y hy => by have := hall y hy; omega)
    rw [hp] at this
    exact this
  have HR : Hid (∀ v, Below w.heap.size w v → ∀ i, i < zs.length → ∃ b off, ao = some ⟨b, off, none⟩ ∧ v.cell? ⟨b, off + i, none⟩ = some (.string (zs.getD i em))) := fun v hv i hi => row_str (hS.below hv) hi
  have HX : Hid (∀ i, i < zs.length → (zs.getD i em).size ≤ 40) := fun i hi => hall _ (by simp [List.getD, hi])
  clear hS hE hall hp
  obtain ⟨N, hN⟩ : ∃ N, zs.length = N := ⟨_, rfl⟩
  have HN : Hid (zs.length = N) := hN
  rw [hN] at HP HR HX hcap h90 HM ⊢
  clear hN
  go_enter Tryd.func3, Tryd.ntmps3
  go_wp2_with fail
  go_loop [15] (fun i => ∃ k : Nat, k ≤ N ∧ i = .int .i64 (k : Int)) (fun i => N - (intOf i).toNat)
  case atStart => exact ⟨0, by omega, rfl⟩
  case round =>
    obtain ⟨k, hk, rfl⟩ := hrel
    by_cases h : k < N
    · obtain ⟨b, off, rfl, hc⟩ := HR.out w (Below.refl _ _) k h
      have h40 := HX.out k h
      obtain ⟨x, hx⟩ : ∃ z, zs.getD k em = z := ⟨_, rfl⟩
      rw [hx] at hc h40
      clear hx
      go_wp2
      go_round
      case rel => exact ⟨k + 1, by omega, by go_num⟩
      case measure => simp [intOf]; omega
    · obtain rfl : k = N := by omega
      clear HX h hk
      go_wp2_with fail
      refine (HP.out _ (Below.refl _ _)).mono ?_
      rintro e w1 ⟨⟨u, rfl, hU⟩, hB1⟩
      obtain ⟨ua, ud, ut, rfl, hUa, hUd, hUt⟩ := hU
      obtain ⟨dz, dc, rfl, -⟩ := hUd.form
      obtain ⟨tz, tc, rfl, -⟩ := hUt.form
      obtain ⟨az, ac, rfl, hAr, -⟩ := hUa.form
      have HB1 : Hid _ := hB1
      clear hB1 HP hUd hUt
      obtain ⟨b, off, hb, -⟩ := row_str hAr (i := 0) (by have := HM1.out; show 0 < args.length; omega)
      obtain rfl := hb
      have hc : Row w1 (some ⟨b, off, none⟩) (txts args) := hAr
      obtain ⟨m, hm⟩ : ∃ m, args.length = m := ⟨_, rfl⟩
      have hm3 : args.length = m := hm
      have HA2 : Hid (args.length = m) := hm
      have hm1 : 1 ≤ m := by rw [← hm]; exact HM1.out
      simp only [hm]
      clear hUa hAr hm hm3
      go_upto_region 25 with fail
      obtain ⟨W2, hW2, HB2, hc2, q0, q1, q2, q4, q5⟩ : ∃ W2, (w1.alloc (.cells #[.string name, .string ⟨#[108, 111, 115, 115]⟩, .slice (some ⟨b, off, none⟩) m ac, .slice dz dims.length dc, .string K, .int .i64 (n : Int), .slice tz data.length tc] 26)) = W2 ∧ Hid (Below w.heap.size w W2) ∧ Hid (Row W2 (some ⟨b, off, none⟩) (txts args)) ∧ W2.cell? ⟨w1.heap.size, 0, none⟩ = some (.string name) ∧ W2.cell? ⟨w1.heap.size, 1, none⟩ = some (.string ⟨#[108, 111, 115, 115]⟩) ∧ W2.cell? ⟨w1.heap.size, 2, none⟩ = some (.slice (some ⟨b, off, none⟩) m ac) ∧ W2.cell? ⟨w1.heap.size, 4, none⟩ = some (.string K) ∧ W2.cell? ⟨w1.heap.size, 5, none⟩ = some (.int .i64 (n : Int)) := ⟨_, rfl, HB1.out.alloc HB1.out.size _, hc.below ((Below.refl _ _).alloc (Nat.le_refl _) _), by rw [World.cell?_alloc_new]; rfl, by rw [World.cell?_alloc_new]; rfl, by rw [World.cell?_alloc_new]; rfl, by rw [World.cell?_alloc_new]; rfl, by rw [World.cell?_alloc_new]; rfl⟩
      rw [hW2]
      clear hW2 hc
      obtain ⟨p, hp⟩ : ∃ p, w1.heap.size = p := ⟨_, rfl⟩
      rw [hp] at q0 q1 q2 q4 q5 ⊢
      clear hp HB1
      have r0 := fun o => cell_below ((Below.refl W2.heap.size W2).alloc (Nat.le_refl _) o) q0
      have r1 := fun o => cell_below ((Below.refl W2.heap.size W2).alloc (Nat.le_refl _) o) q1
      have r2 := fun o => cell_below ((Below.refl W2.heap.size W2).alloc (Nat.le_refl _) o) q2
      have r4 := fun o => cell_below ((Below.refl W2.heap.size W2).alloc (Nat.le_refl _) o) q4
      have r5 := fun o => cell_below ((Below.refl W2.heap.size W2).alloc (Nat.le_refl _) o) q5
      have rc2 : Hid (∀ o, Row (W2.alloc o) (some ⟨b, off, none⟩) (txts args)) := fun o => hc2.out.below ((Below.refl W2.heap.size W2).alloc (Nat.le_refl _) o)
      obtain ⟨i9, hi9, hy0, hy1, hy2⟩ := info_parts inf9
      have hm9 : m ≤ 90 := by have h1 := HM.out; have h2 := HA2.out; omega
      have hex : (txts args).length = m := by rw [← HA2.out]; simp [txts]
      have HEX : Hid _ := hex
      clear hex
      go_wp2_with (first | (at_builtin; refine wpList_append_own _ rfl _ _ 22 rfl W2.heap.size 9 i9 _ 1 16 Tryd.underlying22 hi9 hy0 hy1 hy2 rfl (by decide) _ 1 [.string ⟨#[108, 111, 115, 115]⟩] rfl (own_one' W2 W2.heap.size 9 _ (Nat.le_refl _)) ⟨b, off, none⟩ m ac (txts args) rfl (by rw [HEX.out]; omega) ?_ ?_ ?_ ?_ ?_ ?_))
      · exact (rc2.out _).news
      · intro x hx
        obtain ⟨y, -, rfl⟩ := List.mem_map.1 hx
        rfl
      · unfold maxLen; omega
      · omega
      · simp
      · intro v' W3 hown hgrow _
        obtain ⟨ga, gc, rfl, hGr, -, -, -, hG0⟩ := Row.of_own hown
        obtain ⟨gb, goff, hge, -⟩ := hGr 0 _ rfl
        obtain rfl := hge
        obtain ⟨rfl, -⟩ := hG0 gb goff none rfl
        have HG : Hid (∀ v, Below W3.heap.size W3 v → ∀ i, i < k → ∃ o, v.cell? ⟨gb, o + i, none⟩ = some (.string (zs.getD i em)) ∧ o = 0) := by
          intro v hv i hi
          have hr : Row W3 (some ⟨gb, 0, none⟩) (txts zs) := by rw [HZ.out]; exact hGr
          obtain ⟨b, o, e, h⟩ := row_str (hr.below hv) (i := i) (by rw [HN.out]; exact hi)
          cases e
          exact ⟨0, h, rfl⟩
        have HB3 : Hid (Below w.heap.size w W3) := (HB2.out.alloc HB2.out.size _).grown hgrow (by have := HB2.out.size; simp; omega) (fun x hx => by have := HB2.out.size; cases hx; omega)
        have hk5 : k = 1 + m := by have h1 := HM.out; have h2 := HA2.out; omega
        clear hown hgrow hGr hG0 HB2 hc2 q0 q1 q2 q4 q5 r0 r1 r2 r4 r5 rc2 hi9 hy0 hy1 hy2
        subst hk5
        go_wp2_with fail
        go_loopw [101] (fun i wr => ∃ j : Nat, j ≤ (1 + m) ∧ i = .int .i64 (j : Int) ∧ Below W3.heap.size W3 wr) (fun i _ => (1 + m) - (intOf i).toNat)
        case atStart => exact ⟨0, by omega, rfl, Below.refl _ _⟩
        case round =>
          obtain ⟨j, hj, rfl, hBr⟩ := hrel
          by_cases h : j < (1 + m)
          · obtain ⟨b, off, rfl, hc⟩ := HR.out _ (HB3.out.trans (hBr.mono HB3.out.size)) j h
            obtain ⟨_, hgc, rfl⟩ := HG.out _ hBr j h
            obtain ⟨x, hx⟩ : ∃ z, zs.getD j em = z := ⟨_, rfl⟩
            rw [hx] at hc hgc
            rw [Nat.zero_add] at hgc
            clear hx
            go_wp2_with fail
            go_region
            go_wp2
            go_roundw
            case rel => exact ⟨j + 1, by omega, by go_num, hBr.drew⟩
            case measure => simp [intOf]; omega
          · obtain rfl : j = (1 + m) := by omega
            have HB4 : Hid _ := HB3.out.trans (hBr.mono HB3.out.size)
            clear hBr h hj
            go_wp2_with fail
            refine (HA.out _ HB4.out).mono ?_
            rintro e wz ⟨rfl, hBz⟩
            have HBz : Hid _ := HB4.out.trans (hBz.mono HB4.out.size)
            clear hBz
            go_wp2
            go_ret
            exact ⟨rfl, HBz.out⟩

theorem readOne_any (ao : Option Addr) (zs : List ByteArray) (c : Nat) (aF aZ : Addr) (w : World) (hE : Er w aF aZ) (hS : Row w ao (txts zs)) (hcap : zs.length ≤ c) (hcm : c ≤ maxLen) :
    Calls Tryd.prog 3 #[.slice ao zs.length c] w fun e w' => e = .returned (.bool true) ∧ Below w.heap.size w w' := by
  by_cases hl : 90 < zs.length ∨ ∃ i, i < zs.length ∧ 40 < (zs.getD i em).size
  · exact readOne_long ao zs c aF aZ w hE hS hl
  have h90 : zs.length ≤ 90 := by
    rcases Nat.lt_or_ge 90 zs.length with h | h
    · exact absurd (Or.inl h) hl
    · exact h
  have hall : ∀ y ∈ zs, y.size ≤ 40 := fun y hy => by
    obtain ⟨i, hi, rfl⟩ := List.getElem_of_mem hy
    rcases Nat.lt_or_ge 40 (zs[i].size) with h | h
    · exact absurd (Or.inr ⟨i, hi, by simpa [List.getD, hi] using h⟩) hl
    · exact h
  cases hp : par zs with
  | none => exact readOne_none ao zs c aF aZ w hE hS hcap hcm h90 hall hp
  | some s =>
    by_cases h0 : s.args = []
    · exact readOne_bare ao zs c aF aZ w hE hS hcap hcm h90 hall s hp h0
    cases q1 : isw s.op lScale with
    | true => exact readOne_scale ao zs c aF aZ w hE hS hcap hcm h90 hall s hp q1 h0
    | false =>
    cases q2 : isw s.op lPower with
    | true => exact readOne_power ao zs c aF aZ w hE hS hcap hcm h90 hall s hp q2 h0
    | false =>
    cases q3 : isw s.op [97, 100, 100] with
    | true => exact readOne_add ao zs c aF aZ w hE hS hcap hcm h90 hall s hp q3 h0
    | false =>
    cases q4 : isw s.op [114, 101, 108, 117] with
    | true => exact readOne_relu ao zs c aF aZ w hE hS hcap hcm h90 hall s hp q4 h0
    | false =>
    cases q5 : isw s.op lLoss with
    | true => exact readOne_loss ao zs c aF aZ w hE hS hcap hcm h90 hall s hp q5 h0
    | false => exact readOne_other ao zs c aF aZ w hE hS hcap hcm h90 hall s hp h0 q1 q2 q3 q4 q5
end Go.Proofs.YtokfkmncabmmcaaDoor.Rd
