/-
  THE WALK OF ReadOne: the call gives true. Conditions: the theorem's own (what the argument holds; the package's error stands where it was laid).
-/
import Derived.Test.YtokfkmncabmmcaaDoorRe9
import Derived.Test.YtokfkmncabmmcaaDoorPn
import Derived.Deep.Cut
namespace Go.Proofs.YtokfkmncabmmcaaDoor.Rd
set_option maxRecDepth 100000
open Go.RowKit
set_option linter.unusedVariables false
set_option linter.unusedSimpArgs false

theorem own_five' (w : World) (base : Nat) (e : TypeId) (x y z u v : Value) (hb : base ≤ w.heap.size) : (w.alloc (.cells #[x, y, z, u, v] e)).ownsRow base e 1 (.slice (some ⟨w.heap.size, 0, none⟩) 5 5) 5 [x, y, z, u, v] :=
  ⟨rfl, .inr ⟨w.heap.size, 5, #[x, y, z, u, v], rfl, hb, heap_alloc_new w _, Nat.le_refl _, by unfold maxLen; omega, rfl, rfl⟩⟩
theorem own_three' (w : World) (base : Nat) (e : TypeId) (x y z : Value) (hb : base ≤ w.heap.size) : (w.alloc (.cells #[x, y, z] e)).ownsRow base e 1 (.slice (some ⟨w.heap.size, 0, none⟩) 3 3) 3 [x, y, z] :=
  ⟨rfl, .inr ⟨w.heap.size, 3, #[x, y, z], rfl, hb, heap_alloc_new w _, Nat.le_refl _, by unfold maxLen; omega, rfl, rfl⟩⟩
theorem own_one' (w : World) (base : Nat) (e : TypeId) (x : Value) (hb : base ≤ w.heap.size) : (w.alloc (.cells #[x] e)).ownsRow base e 1 (.slice (some ⟨w.heap.size, 0, none⟩) 1 1) 1 [x] :=
  ⟨rfl, .inr ⟨w.heap.size, 1, #[x], rfl, hb, heap_alloc_new w _, Nat.le_refl _, by unfold maxLen; omega, rfl, rfl⟩⟩
theorem own_row {w : World} {base e n cap : Nat} {ao : Option Addr} {vs : List Value} (h : w.ownsRow base e 1 (.slice ao n cap) n vs) : Row w ao vs := by
  obtain ⟨ao', cap', e, hR, _⟩ := Row.of_own h
  cases e
  exact hR
theorem row_drew {w : World} {a : Option Addr} {vs : List Value} (h : Row w a vs) : Row w.drew a vs := h
theorem num_byte' : ∀ j : Nat, j < 10 → strOfNums [48 + (j : Int)] = str [UInt8.ofNat (48 + j)] := by
  intro j hj
  have : j = 0 ∨ j = 1 ∨ j = 2 ∨ j = 3 ∨ j = 4 ∨ j = 5 ∨ j = 6 ∨ j = 7 ∨ j = 8 ∨ j = 9 := by omega
  rcases this with rfl | rfl | rfl | rfl | rfl | rfl | rfl | rfl | rfl | rfl <;> rfl

set_option maxHeartbeats 4000000 in
theorem readOne_scale (ao : Option Addr) (zs : List ByteArray) (c : Nat) (aF aZ : Addr) (w : World) (hE : Er w aF aZ) (hS : Row w ao (txts zs)) (hcap : zs.length ≤ c) (hcm : c ≤ maxLen) (h90 : zs.length ≤ 90) (hall : ∀ y ∈ zs, y.size ≤ 40) (s : Sm) (hp : par zs = some s) (ho : isw s.op lScale = true) (h0 : s.args ≠ []) :
    Calls Tryd.prog 3 #[.slice ao zs.length c] w fun e w' => e = .returned (.bool true) ∧ Below w.heap.size w w' := by
  obtain ⟨a, ha, hz⟩ : ∃ a, s.args = [a] ∧ zs = [s.name, str lEq, s.op, a, s.k] := by
    rcases back_scale hp ho with h | h
    · exact absurd h h0
    · exact h
  obtain ⟨name, op, args, dims, K, n, data⟩ := s
  obtain rfl := isw_eq ho
  simp only at ha hz
  obtain rfl := ha
  have HZ : Hid _ := hz
  clear hz ho h0
  have HA : Hid (∀ v, Below w.heap.size w v → Calls Tryd.prog 6 #[] v fun e w' => e = .returned (.bool true) ∧ Below v.heap.size v w') := fun v hv => awake_any aF aZ v (hE.below hv)
  have HP : Hid (∀ v, Below w.heap.size w v → Calls Tryd.prog 7 #[.agg #[.int .i64 1, .slice ao zs.length c]] v fun e w' => Po w' v.heap.size (some ⟨name, ⟨lScale.toArray⟩, [a], dims, K, n, data⟩) e ∧ Below v.heap.size v w') := by
    intro v hv
    have := Parse_any 1 zs ao c aF aZ v (hE.below hv) (hS.below hv) (by omega) hcap hcm (fun y hy => by have := hall y hy; omega)
    rw [hp] at this
    exact this
  have HR : Hid (∀ v, Below w.heap.size w v → ∀ i, i < zs.length → ∃ b off, ao = some ⟨b, off, none⟩ ∧ v.cell? ⟨b, off + i, none⟩ = some (.string (zs.getD i em))) := fun v hv i hi => row_str (hS.below hv) hi
  have HX : Hid (∀ i, i < zs.length → (zs.getD i em).size ≤ 40) := fun i hi => hall _ (by simp [List.getD, hi])
  clear hS hE hall hp
  obtain ⟨N, hN⟩ : ∃ N, zs.length = N := ⟨_, rfl⟩
  have HN : Hid (zs.length = N) := hN
  rw [hN] at HP HR HX hcap h90 ⊢
  clear hN
  go_enter Tryd.func3, Tryd.ntmps3
  go_wp2_with fail
  go_loop [15] (fun i => ∃ k : Nat, k ≤ N ∧ i = .int .i64 (k : Int)) (fun i => N - (intOf i).toNat)
  case atStart => exact ⟨0, by omega, rfl⟩
  case round =>
    obtain ⟨k, hk, rfl⟩ := hrel
    by_cases h : k < N
    · obtain ⟨b, off, rfl, hc⟩ := HR.out w (Below.refl _ _) k h
      have h40 := HX.out k h
      obtain ⟨x, hx⟩ : ∃ z, zs.getD k em = z := ⟨_, rfl⟩
      rw [hx] at hc h40
      clear hx
      go_wp2
      go_round
      case rel => exact ⟨k + 1, by omega, by go_num⟩
      case measure => simp [intOf]; omega
    · obtain rfl : k = N := by omega
      clear HX h hk
      go_wp2_with fail
      refine (HP.out _ (Below.refl _ _)).mono ?_
      rintro e w1 ⟨⟨u, rfl, hU⟩, hB1⟩
      obtain ⟨ua, ud, ut, rfl, hUa, hUd, hUt⟩ := hU
      obtain ⟨dz, dc, rfl, -⟩ := hUd.form
      obtain ⟨tz, tc, rfl, -⟩ := hUt.form
      obtain ⟨az, ac, rfl, hAr, -⟩ := hUa.form
      have HB1 : Hid _ := hB1
      clear hB1 HP hUd hUt
      obtain ⟨b, off, hb, hc⟩ := row_str hAr (i := 0) (by simp)
      obtain rfl := hb
      simp only [List.getD_cons_zero, Nat.add_zero] at hc
      simp only [List.length_singleton]
      clear hUa hAr
      go_wp2_with fail
      obtain ⟨W2, hW2, HB2, hc2, q0, q1, q2, q4, q5⟩ : ∃ W2, (w1.alloc (.cells #[.string name, .string ⟨lScale.toArray⟩, .slice (some ⟨b, off, none⟩) 1 ac, .slice dz dims.length dc, .string K, .int .i64 (n : Int), .slice tz data.length tc] 26)) = W2 ∧ Hid (Below w.heap.size w W2) ∧ W2.cell? ⟨b, off, none⟩ = some (.string a) ∧ W2.cell? ⟨w1.heap.size, 0, none⟩ = some (.string name) ∧ W2.cell? ⟨w1.heap.size, 1, none⟩ = some (.string ⟨lScale.toArray⟩) ∧ W2.cell? ⟨w1.heap.size, 2, none⟩ = some (.slice (some ⟨b, off, none⟩) 1 ac) ∧ W2.cell? ⟨w1.heap.size, 4, none⟩ = some (.string K) ∧ W2.cell? ⟨w1.heap.size, 5, none⟩ = some (.int .i64 (n : Int)) := ⟨_, rfl, HB1.out.alloc HB1.out.size _, cell_below ((Below.refl _ _).alloc (Nat.le_refl _) _) hc, by rw [World.cell?_alloc_new]; rfl, by rw [World.cell?_alloc_new]; rfl, by rw [World.cell?_alloc_new]; rfl, by rw [World.cell?_alloc_new]; rfl, by rw [World.cell?_alloc_new]; rfl⟩
      rw [hW2]
      clear hW2 hc
      obtain ⟨p, hp⟩ : ∃ p, w1.heap.size = p := ⟨_, rfl⟩
      rw [hp] at q0 q1 q2 q4 q5 ⊢
      clear hp HB1
      have r0 := fun o => cell_below ((Below.refl W2.heap.size W2).alloc (Nat.le_refl _) o) q0
      have r1 := fun o => cell_below ((Below.refl W2.heap.size W2).alloc (Nat.le_refl _) o) q1
      have r2 := fun o => cell_below ((Below.refl W2.heap.size W2).alloc (Nat.le_refl _) o) q2
      have r4 := fun o => cell_below ((Below.refl W2.heap.size W2).alloc (Nat.le_refl _) o) q4
      have r5 := fun o => cell_below ((Below.refl W2.heap.size W2).alloc (Nat.le_refl _) o) q5
      have rc2 := fun o => cell_below ((Below.refl W2.heap.size W2).alloc (Nat.le_refl _) o) hc2
      go_region
      obtain ⟨W3, hW3, HG, HB3⟩ : ∃ W3, (W2.alloc (.cells #[.string name, .string ⟨#[61]⟩, .string ⟨#[115, 99, 97, 108, 101]⟩, .string a, .string K] 9)).drew = W3 ∧ Hid (∀ v, Below W3.heap.size W3 v → ∀ i, i < k → ∃ o, v.cell? ⟨W2.heap.size, o + i, none⟩ = some (.string (zs.getD i em)) ∧ o = 0) ∧ Hid (Below w.heap.size w W3) := by
        refine ⟨_, rfl, fun v hv i hi => ?_, (HB2.out.alloc HB2.out.size _).drew⟩
        have hr : Row (W2.alloc (.cells #[.string name, .string ⟨#[61]⟩, .string ⟨#[115, 99, 97, 108, 101]⟩, .string a, .string K] 9)).drew (some ⟨W2.heap.size, 0, none⟩) (txts zs) := by rw [HZ.out]; exact own_row (own_five' W2 0 9 _ _ _ _ _ (Nat.zero_le _))
        obtain ⟨b, o, e, h⟩ := row_str (hr.below hv) (i := i) (by rw [HN.out]; exact hi)
        cases e
        exact ⟨0, h, rfl⟩
      rw [hW3]
      have hk5 : k = 5 := by rw [← HN.out, HZ.out]; rfl
      obtain ⟨g, hg⟩ : ∃ g, W2.heap.size = g := ⟨_, rfl⟩
      rw [hg] at HG ⊢
      clear hW3 hg HB2 hc2 q0 q1 q2 q4 q5 r0 r1 r2 r4 r5 rc2
      subst hk5
      go_wp2_with fail
      go_loopw [101] (fun i wr => ∃ j : Nat, j ≤ 5 ∧ i = .int .i64 (j : Int) ∧ Below W3.heap.size W3 wr) (fun i _ => 5 - (intOf i).toNat)
      case atStart => exact ⟨0, by omega, rfl, Below.refl _ _⟩
      case round =>
        obtain ⟨j, hj, rfl, hBr⟩ := hrel
        by_cases h : j < 5
        · obtain ⟨b, off, rfl, hc⟩ := HR.out _ (HB3.out.trans (hBr.mono HB3.out.size)) j h
          obtain ⟨_, hgc, rfl⟩ := HG.out _ hBr j h
          obtain ⟨x, hx⟩ : ∃ z, zs.getD j em = z := ⟨_, rfl⟩
          rw [hx] at hc hgc
          rw [Nat.zero_add] at hgc
          clear hx
          go_wp2_with fail
          go_region
          go_wp2
          go_roundw
          case rel => exact ⟨j + 1, by omega, by go_num, hBr.drew⟩
          case measure => simp [intOf]; omega
        · obtain rfl : j = 5 := by omega
          have HB4 : Hid _ := HB3.out.trans (hBr.mono HB3.out.size)
          clear hBr h hj
          go_wp2_with fail
          refine (HA.out _ HB4.out).mono ?_
          rintro e wz ⟨rfl, hBz⟩
          have HBz : Hid _ := HB4.out.trans (hBz.mono HB4.out.size)
          clear hBz
          go_wp2
          go_ret
          exact ⟨rfl, HBz.out⟩

set_option maxHeartbeats 4000000 in
theorem readOne_power (ao : Option Addr) (zs : List ByteArray) (c : Nat) (aF aZ : Addr) (w : World) (hE : Er w aF aZ) (hS : Row w ao (txts zs)) (hcap : zs.length ≤ c) (hcm : c ≤ maxLen) (h90 : zs.length ≤ 90) (hall : ∀ y ∈ zs, y.size ≤ 40) (s : Sm) (hp : par zs = some s) (ho : isw s.op lPower = true) (h0 : s.args ≠ []) :
    Calls Tryd.prog 3 #[.slice ao zs.length c] w fun e w' => e = .returned (.bool true) ∧ Below w.heap.size w w' := by
  obtain ⟨hn6, a, ha, hz⟩ : s.n ≤ 6 ∧ ∃ a, s.args = [a] ∧ zs = [s.name, str lEq, s.op, a, str [UInt8.ofNat (48 + s.n)]] := by
    rcases back_power hp ho with h | h
    · exact absurd h h0
    · exact h
  obtain ⟨name, op, args, dims, K, n, data⟩ := s
  obtain rfl := isw_eq ho
  simp only at ha hz hn6
  obtain rfl := ha
  rw [← num_byte' n (by omega)] at hz
  have HZ : Hid _ := hz
  clear hz ho h0
  have hcv : ∀ (W : World) (z : Int), (convert 32 9 (.slice (some ⟨W.heap.size, 0, none⟩) 1 1)).run Tryd.prog (W.alloc (.cells #[.int .u8 z] 5)) = .ok (.string (strOfNums [z])) (W.alloc (.cells #[.int .u8 z] 5)) := fun W z =>
    run_convert_bytes_arg (P := Tryd.prog) (W.alloc (.cells #[.int .u8 z] 5)) 32 5 Tryd.underlying32 Tryd.underlying5 W.heap.size 0 1 1 [z] rfl (fun i hi => by
        obtain rfl : i = 0 := by omega
        rw [World.cell?_alloc_new]; rfl) 9 Tryd.underlying9
  have hcw : ∀ (W : World) (z : Int), (convert 32 9 (.slice (some ⟨W.heap.size, 0, none⟩) 1 1)).run Tryd.prog (W.alloc (.cells #[.int .u8 z] 5)).drew = .ok (.string (strOfNums [z])) (W.alloc (.cells #[.int .u8 z] 5)).drew := fun W z =>
    run_convert_bytes_arg (P := Tryd.prog) (W.alloc (.cells #[.int .u8 z] 5)).drew 32 5 Tryd.underlying32 Tryd.underlying5 W.heap.size 0 1 1 [z] rfl (fun i hi => by
        obtain rfl : i = 0 := by omega
        show (W.alloc (.cells #[.int .u8 z] 5)).cell? _ = _
        rw [World.cell?_alloc_new]; rfl) 9 Tryd.underlying9
  have hnt : (n : Int).tmod 10 = (n : Int) := by rw [Int.tmod_eq_emod_of_nonneg (by omega)]; omega
  have HA : Hid (∀ v, Below w.heap.size w v → Calls Tryd.prog 6 #[] v fun e w' => e = .returned (.bool true) ∧ Below v.heap.size v w') := fun v hv => awake_any aF aZ v (hE.below hv)
  have HP : Hid (∀ v, Below w.heap.size w v → Calls Tryd.prog 7 #[.agg #[.int .i64 1, .slice ao zs.length c]] v fun e w' => Po w' v.heap.size (some ⟨name, ⟨lPower.toArray⟩, [a], dims, K, n, data⟩) e ∧ Below v.heap.size v w') := by
    intro v hv
    have := Parse_any 1 zs ao c aF aZ v (hE.below hv) (hS.below hv) (by omega) hcap hcm (fun y hy => by have := hall y hy; omega)
    rw [hp] at this
    exact this
  have HR : Hid (∀ v, Below w.heap.size w v → ∀ i, i < zs.length → ∃ b off, ao = some ⟨b, off, none⟩ ∧ v.cell? ⟨b, off + i, none⟩ = some (.string (zs.getD i em))) := fun v hv i hi => row_str (hS.below hv) hi
  have HX : Hid (∀ i, i < zs.length → (zs.getD i em).size ≤ 40) := fun i hi => hall _ (by simp [List.getD, hi])
  clear hS hE hall hp
  obtain ⟨N, hN⟩ : ∃ N, zs.length = N := ⟨_, rfl⟩
  have HN : Hid (zs.length = N) := hN
  rw [hN] at HP HR HX hcap h90 ⊢
  clear hN
  go_enter Tryd.func3, Tryd.ntmps3
  go_wp2_with fail
  go_loop [15] (fun i => ∃ k : Nat, k ≤ N ∧ i = .int .i64 (k : Int)) (fun i => N - (intOf i).toNat)
  case atStart => exact ⟨0, by omega, rfl⟩
  case round =>
    obtain ⟨k, hk, rfl⟩ := hrel
    by_cases h : k < N
    · obtain ⟨b, off, rfl, hc⟩ := HR.out w (Below.refl _ _) k h
      have h40 := HX.out k h
      obtain ⟨x, hx⟩ : ∃ z, zs.getD k em = z := ⟨_, rfl⟩
      rw [hx] at hc h40
      clear hx
      go_wp2
      go_round
      case rel => exact ⟨k + 1, by omega, by go_num⟩
      case measure => simp [intOf]; omega
    · obtain rfl : k = N := by omega
      clear HX h hk
      go_wp2_with fail
      refine (HP.out _ (Below.refl _ _)).mono ?_
      rintro e w1 ⟨⟨u, rfl, hU⟩, hB1⟩
      obtain ⟨ua, ud, ut, rfl, hUa, hUd, hUt⟩ := hU
      obtain ⟨dz, dc, rfl, -⟩ := hUd.form
      obtain ⟨tz, tc, rfl, -⟩ := hUt.form
      obtain ⟨az, ac, rfl, hAr, -⟩ := hUa.form
      have HB1 : Hid _ := hB1
      clear hB1 HP hUd hUt
      obtain ⟨b, off, hb, hc⟩ := row_str hAr (i := 0) (by simp)
      obtain rfl := hb
      simp only [List.getD_cons_zero, Nat.add_zero] at hc
      simp only [List.length_singleton]
      clear hUa hAr
      go_wp2_with fail
      obtain ⟨W2, hW2, HB2, hc2, q0, q1, q2, q4, q5⟩ : ∃ W2, (w1.alloc (.cells #[.string name, .string ⟨lPower.toArray⟩, .slice (some ⟨b, off, none⟩) 1 ac, .slice dz dims.length dc, .string K, .int .i64 (n : Int), .slice tz data.length tc] 26)) = W2 ∧ Hid (Below w.heap.size w W2) ∧ W2.cell? ⟨b, off, none⟩ = some (.string a) ∧ W2.cell? ⟨w1.heap.size, 0, none⟩ = some (.string name) ∧ W2.cell? ⟨w1.heap.size, 1, none⟩ = some (.string ⟨lPower.toArray⟩) ∧ W2.cell? ⟨w1.heap.size, 2, none⟩ = some (.slice (some ⟨b, off, none⟩) 1 ac) ∧ W2.cell? ⟨w1.heap.size, 4, none⟩ = some (.string K) ∧ W2.cell? ⟨w1.heap.size, 5, none⟩ = some (.int .i64 (n : Int)) := ⟨_, rfl, HB1.out.alloc HB1.out.size _, cell_below ((Below.refl _ _).alloc (Nat.le_refl _) _) hc, by rw [World.cell?_alloc_new]; rfl, by rw [World.cell?_alloc_new]; rfl, by rw [World.cell?_alloc_new]; rfl, by rw [World.cell?_alloc_new]; rfl, by rw [World.cell?_alloc_new]; rfl⟩
      rw [hW2]
      clear hW2 hc
      obtain ⟨p, hp⟩ : ∃ p, w1.heap.size = p := ⟨_, rfl⟩
      rw [hp] at q0 q1 q2 q4 q5 ⊢
      clear hp HB1
      have r0 := fun o => cell_below ((Below.refl W2.heap.size W2).alloc (Nat.le_refl _) o) q0
      have r1 := fun o => cell_below ((Below.refl W2.heap.size W2).alloc (Nat.le_refl _) o) q1
      have r2 := fun o => cell_below ((Below.refl W2.heap.size W2).alloc (Nat.le_refl _) o) q2
      have r4 := fun o => cell_below ((Below.refl W2.heap.size W2).alloc (Nat.le_refl _) o) q4
      have r5 := fun o => cell_below ((Below.refl W2.heap.size W2).alloc (Nat.le_refl _) o) q5
      have rc2 := fun o => cell_below ((Below.refl W2.heap.size W2).alloc (Nat.le_refl _) o) hc2
      go_region
      obtain ⟨W3, hW3, HG, HB3⟩ : ∃ W3, ((W2.alloc (.cells #[.int .u8 (48 + (n : Int))] 5)).alloc (.cells #[.string name, .string ⟨#[61]⟩, .string ⟨#[112, 111, 119, 101, 114]⟩, .string a, .string (strOfNums [48 + (n : Int)])] 9)).drew = W3 ∧ Hid (∀ v, Below W3.heap.size W3 v → ∀ i, i < k → ∃ o, v.cell? ⟨(W2.heap.size + 1), o + i, none⟩ = some (.string (zs.getD i em)) ∧ o = 0) ∧ Hid (Below w.heap.size w W3) := by
        refine ⟨_, rfl, fun v hv i hi => ?_, ((HB2.out.alloc HB2.out.size _).alloc (HB2.out.alloc HB2.out.size _).size _).drew⟩
        have hr : Row ((W2.alloc (.cells #[.int .u8 (48 + (n : Int))] 5)).alloc (.cells #[.string name, .string ⟨#[61]⟩, .string ⟨#[112, 111, 119, 101, 114]⟩, .string a, .string (strOfNums [48 + (n : Int)])] 9)).drew (some ⟨(W2.heap.size + 1), 0, none⟩) (txts zs) := by rw [HZ.out]; exact own_row (by have h := own_five' (W2.alloc (.cells #[.int .u8 (48 + (n : Int))] 5)) 0 9 (.string name) (.string ⟨#[61]⟩) (.string ⟨#[112, 111, 119, 101, 114]⟩) (.string a) (.string (strOfNums [48 + (n : Int)])) (Nat.zero_le _); rw [show (W2.alloc (.cells #[.int .u8 (48 + (n : Int))] 5)).heap.size = W2.heap.size + 1 by simp] at h; exact h)
        obtain ⟨b, o, e, h⟩ := row_str (hr.below hv) (i := i) (by rw [HN.out]; exact hi)
        cases e
        exact ⟨0, h, rfl⟩
      rw [hW3]
      have hk5 : k = 5 := by rw [← HN.out, HZ.out]; rfl
      obtain ⟨g, hg⟩ : ∃ g, (W2.heap.size + 1) = g := ⟨_, rfl⟩
      rw [hg] at HG ⊢
      clear hW3 hg HB2 hc2 q0 q1 q2 q4 q5 r0 r1 r2 r4 r5 rc2
      subst hk5
      go_wp2_with fail
      go_loopw [101] (fun i wr => ∃ j : Nat, j ≤ 5 ∧ i = .int .i64 (j : Int) ∧ Below W3.heap.size W3 wr) (fun i _ => 5 - (intOf i).toNat)
      case atStart => exact ⟨0, by omega, rfl, Below.refl _ _⟩
      case round =>
        obtain ⟨j, hj, rfl, hBr⟩ := hrel
        by_cases h : j < 5
        · obtain ⟨b, off, rfl, hc⟩ := HR.out _ (HB3.out.trans (hBr.mono HB3.out.size)) j h
          obtain ⟨_, hgc, rfl⟩ := HG.out _ hBr j h
          obtain ⟨x, hx⟩ : ∃ z, zs.getD j em = z := ⟨_, rfl⟩
          rw [hx] at hc hgc
          rw [Nat.zero_add] at hgc
          clear hx
          go_wp2_with fail
          go_region
          go_wp2
          go_roundw
          case rel => exact ⟨j + 1, by omega, by go_num, hBr.drew⟩
          case measure => simp [intOf]; omega
        · obtain rfl : j = 5 := by omega
          have HB4 : Hid _ := HB3.out.trans (hBr.mono HB3.out.size)
          clear hBr h hj
          go_wp2_with fail
          refine (HA.out _ HB4.out).mono ?_
          rintro e wz ⟨rfl, hBz⟩
          have HBz : Hid _ := HB4.out.trans (hBz.mono HB4.out.size)
          clear hBz
          go_wp2
          go_ret
          exact ⟨rfl, HBz.out⟩

set_option maxHeartbeats 4000000 in
theorem readOne_none (ao : Option Addr) (zs : List ByteArray) (c : Nat) (aF aZ : Addr) (w : World) (hE : Er w aF aZ) (hS : Row w ao (txts zs)) (hcap : zs.length ≤ c) (hcm : c ≤ maxLen) (h90 : zs.length ≤ 90) (hall : ∀ y ∈ zs, y.size ≤ 40) (hp : par zs = none) :
    Calls Tryd.prog 3 #[.slice ao zs.length c] w fun e w' => e = .returned (.bool true) ∧ Below w.heap.size w w' := by
  have HA : Hid (∀ v, Below w.heap.size w v → Calls Tryd.prog 6 #[] v fun e w' => e = .returned (.bool true) ∧ Below v.heap.size v w') := fun v hv => awake_any aF aZ v (hE.below hv)
  have HP : Hid (∀ v, Below w.heap.size w v → Calls Tryd.prog 7 #[.agg #[.int .i64 1, .slice ao zs.length c]] v fun e w' => Po w' v.heap.size none e ∧ Below v.heap.size v w') := by
    intro v hv
    have := Parse_any 1 zs ao c aF aZ v (hE.below hv) (hS.below hv) (by omega) hcap hcm (fun y hy => by have := hall y hy; omega)
    rw [hp] at this
    exact this
  have HR : Hid (∀ v, Below w.heap.size w v → ∀ i, i < zs.length → ∃ b off, ao = some ⟨b, off, none⟩ ∧ v.cell? ⟨b, off + i, none⟩ = some (.string (zs.getD i em))) := fun v hv i hi => row_str (hS.below hv) hi
  have HX : Hid (∀ i, i < zs.length → (zs.getD i em).size ≤ 40) := fun i hi => hall _ (by simp [List.getD, hi])
  clear hS hE hall hp
  obtain ⟨N, hN⟩ : ∃ N, zs.length = N := ⟨_, rfl⟩
  have HN : Hid (zs.length = N) := hN
  rw [hN] at HP HR HX hcap h90 ⊢
  clear hN
  go_enter Tryd.func3, Tryd.ntmps3
  go_wp2_with fail
  go_loop [15] (fun i => ∃ k : Nat, k ≤ N ∧ i = .int .i64 (k : Int)) (fun i => N - (intOf i).toNat)
  case atStart => exact ⟨0, by omega, rfl⟩
  case round =>
    obtain ⟨k, hk, rfl⟩ := hrel
    by_cases h : k < N
    · obtain ⟨b, off, rfl, hc⟩ := HR.out w (Below.refl _ _) k h
      have h40 := HX.out k h
      obtain ⟨x, hx⟩ : ∃ z, zs.getD k em = z := ⟨_, rfl⟩
      rw [hx] at hc h40
      clear hx
      go_wp2
      go_round
      case rel => exact ⟨k + 1, by omega, by go_num⟩
      case measure => simp [intOf]; omega
    · obtain rfl : k = N := by omega
      clear HX h hk
      go_wp2_with fail
      refine (HP.out _ (Below.refl _ _)).mono ?_
      rintro e w1 ⟨rfl, hB1⟩
      have HB1 : Hid _ := hB1
      have HB2 : Hid (Below w.heap.size w (w1.alloc (Obj.cells #[.string ⟨#[]⟩, .string ⟨#[]⟩, .slice none 0 0, .slice none 0 0, .string ⟨#[]⟩, .int .i64 0, .slice none 0 0] 26))) := HB1.out.alloc HB1.out.size _
      clear hB1 HP
      go_wp2_with fail
      refine (HA.out _ HB2.out).mono ?_
      rintro e wz ⟨rfl, hBz⟩
      have HBz : Hid _ := HB2.out.trans (hBz.mono HB2.out.size)
      clear hBz
      go_wp2
      go_ret
      exact ⟨rfl, HBz.out⟩

set_option maxHeartbeats 4000000 in
theorem readOne_bare (ao : Option Addr) (zs : List ByteArray) (c : Nat) (aF aZ : Addr) (w : World) (hE : Er w aF aZ) (hS : Row w ao (txts zs)) (hcap : zs.length ≤ c) (hcm : c ≤ maxLen) (h90 : zs.length ≤ 90) (hall : ∀ y ∈ zs, y.size ≤ 40) (s : Sm) (hp : par zs = some s) (h0 : s.args = []) :
    Calls Tryd.prog 3 #[.slice ao zs.length c] w fun e w' => e = .returned (.bool true) ∧ Below w.heap.size w w' := by
  obtain ⟨name, op, args, dims, K, n, data⟩ := s
  simp only at h0
  subst h0
  have HA : Hid (∀ v, Below w.heap.size w v → Calls Tryd.prog 6 #[] v fun e w' => e = .returned (.bool true) ∧ Below v.heap.size v w') := fun v hv => awake_any aF aZ v (hE.below hv)
  have HP : Hid (∀ v, Below w.heap.size w v → Calls Tryd.prog 7 #[.agg #[.int .i64 1, .slice ao zs.length c]] v fun e w' => Po w' v.heap.size (some ⟨name, op, [], dims, K, n, data⟩) e ∧ Below v.heap.size v w') := by
    intro v hv
    have := Parse_any 1 zs ao c aF aZ v (hE.below hv) (hS.below hv) (by omega) hcap hcm (fun y hy => by have := hall y hy; omega)
    rw [hp] at this
    exact this
  have HR : Hid (∀ v, Below w.heap.size w v → ∀ i, i < zs.length → ∃ b off, ao = some ⟨b, off, none⟩ ∧ v.cell? ⟨b, off + i, none⟩ = some (.string (zs.getD i em))) := fun v hv i hi => row_str (hS.below hv) hi
  have HX : Hid (∀ i, i < zs.length → (zs.getD i em).size ≤ 40) := fun i hi => hall _ (by simp [List.getD, hi])
  clear hS hE hall hp
  obtain ⟨N, hN⟩ : ∃ N, zs.length = N := ⟨_, rfl⟩
  have HN : Hid (zs.length = N) := hN
  rw [hN] at HP HR HX hcap h90 ⊢
  clear hN
  go_enter Tryd.func3, Tryd.ntmps3
  go_wp2_with fail
  go_loop [15] (fun i => ∃ k : Nat, k ≤ N ∧ i = .int .i64 (k : Int)) (fun i => N - (intOf i).toNat)
  case atStart => exact ⟨0, by omega, rfl⟩
  case round =>
    obtain ⟨k, hk, rfl⟩ := hrel
    by_cases h : k < N
    · obtain ⟨b, off, rfl, hc⟩ := HR.out w (Below.refl _ _) k h
      have h40 := HX.out k h
      obtain ⟨x, hx⟩ : ∃ z, zs.getD k em = z := ⟨_, rfl⟩
      rw [hx] at hc h40
      clear hx
      go_wp2
      go_round
      case rel => exact ⟨k + 1, by omega, by go_num⟩
      case measure => simp [intOf]; omega
    · obtain rfl : k = N := by omega
      clear HX h hk
      go_wp2_with fail
      refine (HP.out _ (Below.refl _ _)).mono ?_
      rintro e w1 ⟨⟨u, rfl, hU⟩, hB1⟩
      obtain ⟨ua, ud, ut, rfl, hUa, hUd, hUt⟩ := hU
      obtain ⟨dz, dc, rfl, -⟩ := hUd.form
      obtain ⟨tz, tc, rfl, -⟩ := hUt.form
      obtain ⟨az, ac, rfl, hAr, -⟩ := hUa.form
      have HB1 : Hid _ := hB1
      clear hB1 HP hUd hUt
      clear hUa hAr
      simp only [List.length_nil]
      have HB2 : Hid _ := HB1.out.alloc HB1.out.size (Obj.cells #[.string name, .string op, .slice az 0 ac, .slice dz dims.length dc, .string K, .int .i64 (n : Int), .slice tz data.length tc] 26)
      go_wp2_with fail
      refine (HA.out _ HB2.out).mono ?_
      rintro e wz ⟨rfl, hBz⟩
      have HBz : Hid _ := HB2.out.trans (hBz.mono HB2.out.size)
      clear hBz
      go_wp2
      go_ret
      exact ⟨rfl, HBz.out⟩

set_option maxHeartbeats 4000000 in
theorem readOne_other (ao : Option Addr) (zs : List ByteArray) (c : Nat) (aF aZ : Addr) (w : World) (hE : Er w aF aZ) (hS : Row w ao (txts zs)) (hcap : zs.length ≤ c) (hcm : c ≤ maxLen) (h90 : zs.length ≤ 90) (hall : ∀ y ∈ zs, y.size ≤ 40) (s : Sm) (hp : par zs = some s) (h0 : s.args ≠ []) (q1 : isw s.op lScale = false) (q2 : isw s.op lPower = false) (q3 : isw s.op [97, 100, 100] = false) (q4 : isw s.op [114, 101, 108, 117] = false) (q5 : isw s.op lLoss = false) :
    Calls Tryd.prog 3 #[.slice ao zs.length c] w fun e w' => e = .returned (.bool true) ∧ Below w.heap.size w w' := by
  obtain ⟨name, op, args, dims, K, n, data⟩ := s
  simp only at h0 q1 q2 q3 q4 q5
  have g1 := isw_l q1
  have g2 := isw_l q2
  have g3 := isw_l q3
  have g4 := isw_l q4
  have g5 := isw_l q5
  have HM1 : Hid (1 ≤ args.length) := by show 1 ≤ _; cases args with | nil => exact absurd rfl h0 | cons _ _ => simp
  clear h0 q1 q2 q3 q4 q5
  have HA : Hid (∀ v, Below w.heap.size w v → Calls Tryd.prog 6 #[] v fun e w' => e = .returned (.bool true) ∧ Below v.heap.size v w') := fun v hv => awake_any aF aZ v (hE.below hv)
  have HP : Hid (∀ v, Below w.heap.size w v → Calls Tryd.prog 7 #[.agg #[.int .i64 1, .slice ao zs.length c]] v fun e w' => Po w' v.heap.size (some ⟨name, op, args, dims, K, n, data⟩) e ∧ Below v.heap.size v w') := by
    intro v hv
    have := Parse_any 1 zs ao c aF aZ v (hE.below hv) (hS.below hv) (by omega) hcap hcm (fun y hy => by have := hall y hy; omega)
    rw [hp] at this
    exact this
  have HR : Hid (∀ v, Below w.heap.size w v → ∀ i, i < zs.length → ∃ b off, ao = some ⟨b, off, none⟩ ∧ v.cell? ⟨b, off + i, none⟩ = some (.string (zs.getD i em))) := fun v hv i hi => row_str (hS.below hv) hi
  have HX : Hid (∀ i, i < zs.length → (zs.getD i em).size ≤ 40) := fun i hi => hall _ (by simp [List.getD, hi])
  clear hS hE hall hp
  obtain ⟨N, hN⟩ : ∃ N, zs.length = N := ⟨_, rfl⟩
  have HN : Hid (zs.length = N) := hN
  rw [hN] at HP HR HX hcap h90 ⊢
  clear hN
  go_enter Tryd.func3, Tryd.ntmps3
  go_wp2_with fail
  go_loop [15] (fun i => ∃ k : Nat, k ≤ N ∧ i = .int .i64 (k : Int)) (fun i => N - (intOf i).toNat)
  case atStart => exact ⟨0, by omega, rfl⟩
  case round =>
    obtain ⟨k, hk, rfl⟩ := hrel
    by_cases h : k < N
    · obtain ⟨b, off, rfl, hc⟩ := HR.out w (Below.refl _ _) k h
      have h40 := HX.out k h
      obtain ⟨x, hx⟩ : ∃ z, zs.getD k em = z := ⟨_, rfl⟩
      rw [hx] at hc h40
      clear hx
      go_wp2
      go_round
      case rel => exact ⟨k + 1, by omega, by go_num⟩
      case measure => simp [intOf]; omega
    · obtain rfl : k = N := by omega
      clear HX h hk
      go_wp2_with fail
      refine (HP.out _ (Below.refl _ _)).mono ?_
      rintro e w1 ⟨⟨u, rfl, hU⟩, hB1⟩
      obtain ⟨ua, ud, ut, rfl, hUa, hUd, hUt⟩ := hU
      obtain ⟨dz, dc, rfl, -⟩ := hUd.form
      obtain ⟨tz, tc, rfl, -⟩ := hUt.form
      obtain ⟨az, ac, rfl, hAr, -⟩ := hUa.form
      have HB1 : Hid _ := hB1
      clear hB1 HP hUd hUt
      clear hUa hAr
      obtain ⟨m, hm⟩ : ∃ m, args.length = m := ⟨_, rfl⟩
      have hm1 : 1 ≤ m := by rw [← hm]; exact HM1.out
      simp only [hm]
      clear hm
      have HB2 : Hid _ := HB1.out.alloc HB1.out.size (Obj.cells #[.string name, .string op, .slice az m ac, .slice dz dims.length dc, .string K, .int .i64 (n : Int), .slice tz data.length tc] 26)
      go_wp2_with fail
      refine (HA.out _ HB2.out).mono ?_
      rintro e wz ⟨rfl, hBz⟩
      have HBz : Hid _ := HB2.out.trans (hBz.mono HB2.out.size)
      clear hBz
      go_wp2
      go_ret
      exact ⟨rfl, HBz.out⟩

set_option maxHeartbeats 4000000 in
theorem readOne_long (ao : Option Addr) (zs : List ByteArray) (c : Nat) (aF aZ : Addr) (w : World) (hE : Er w aF aZ) (hS : Row w ao (txts zs)) (hl : 90 < zs.length ∨ ∃ i, i < zs.length ∧ 40 < (zs.getD i em).size) :
    Calls Tryd.prog 3 #[.slice ao zs.length c] w fun e w' => e = .returned (.bool true) ∧ Below w.heap.size w w' := by
  have HA : Hid (∀ v, Below w.heap.size w v → Calls Tryd.prog 6 #[] v fun e w' => e = .returned (.bool true) ∧ Below v.heap.size v w') := fun v hv => awake_any aF aZ v (hE.below hv)
  have HR : Hid _ := fun i (h : i < zs.length) => row_str hS h
  clear hS hE
  obtain ⟨N, hN⟩ : ∃ N, zs.length = N := ⟨_, rfl⟩
  rw [hN] at HR hl ⊢
  clear hN
  have HL : Hid _ := hl
  clear hl
  by_cases h90 : 90 < N
  · go_enter Tryd.func3, Tryd.ntmps3
    go_wp2_with fail
    refine (HA.out _ (Below.refl _ _)).mono ?_
    rintro e w1 ⟨rfl, hB⟩
    go_wp2
    go_ret
    exact ⟨rfl, hB⟩
  go_enter Tryd.func3, Tryd.ntmps3
  go_wp2_with fail
  go_loop [15] (fun i => ∃ k : Nat, k ≤ N ∧ i = .int .i64 (k : Int) ∧ ∀ j, j < k → (zs.getD j em).size ≤ 40) (fun i => N - (intOf i).toNat)
  case atStart => exact ⟨0, by omega, rfl, fun j hj => by omega⟩
  case round =>
    obtain ⟨k, hk, rfl, hj⟩ := hrel
    have HJ : Hid _ := hj
    clear hj
    by_cases h : k < N
    · obtain ⟨b, off, rfl, hc⟩ := HR.out k h
      obtain ⟨x, hx⟩ : ∃ z, zs.getD k em = z := ⟨_, rfl⟩
      rw [hx] at hc
      have HX : Hid _ := hx
      clear hx
      by_cases h40 : 40 < x.size
      · go_wp2_with fail
        refine (HA.out _ (Below.refl _ _)).mono ?_
        rintro e w1 ⟨rfl, hB⟩
        go_wp2
        go_ret
        exact ⟨rfl, hB⟩
      · go_wp2
        go_round
        case rel =>
          refine ⟨k + 1, by omega, by go_num, fun j hj => ?_⟩
          by_cases e : j = k
          · rw [e, HX.out]; omega
          · exact HJ.out j (by omega)
        case measure => simp [intOf]; omega
    · exfalso
      rcases HL.out with h1 | ⟨i, h1, h2⟩
      · omega
      · have := HJ.out i (by omega)
        omega
end Go.Proofs.YtokfkmncabmmcaaDoor.Rd
