/-
  THE DOCUMENT's KINDS OF OPERATIONS; ARE STATEMENTS THE SAME? Conditions: each theorem's own.
-/
import Derived.Test.YtokfkmncabmmcaaGreatDoorRu9
namespace Go.Proofs.YtokfkmncabmmcaaGreatDoor.Rd
set_option maxRecDepth 100000
open Go.RowKit
set_option linter.unusedVariables false
set_option linter.unusedSimpArgs false

def sl (ls : List (List UInt8)) : List ByteArray := ls.map str
theorem sl_at {ls : List (List UInt8)} {j : Nat} (h : j < ls.length) : ∃ l, l ∈ ls ∧ (sl ls).getD j em = str l := by
  refine ⟨ls[j], List.getElem_mem h, ?_⟩
  simp [sl, List.getD, h]
theorem any_no {ls : List (List UInt8)} {x : ByteArray} (h : ∀ j, j < ls.length → (((sl ls).getD j em).toList == x.toList) = false) : ls.any (isw x) = false := by
  rw [List.any_eq_false]
  intro l hl
  obtain ⟨j, hj, rfl⟩ := List.getElem_of_mem hl
  have := h j hj
  have e : (sl ls).getD j em = ⟨ls[j].toArray⟩ := by simp [sl, List.getD, hj, str]
  rw [e, isw_v] at this
  rw [this]; simp
theorem any_yes {ls : List (List UInt8)} {x : ByteArray} {j : Nat} (hj : j < ls.length) (h : (((sl ls).getD j em).toList == x.toList) = true) : ls.any (isw x) = true := by
  rw [List.any_eq_true]
  have e : (sl ls).getD j em = ⟨ls[j].toArray⟩ := by simp [sl, List.getD, hj, str]
  rw [e, isw_v] at h
  exact ⟨_, List.getElem_mem hj, h⟩
theorem twos_kn {x : ByteArray} (h : twos.any (isw x) = true) : ari x = 2 ∧ knd x = 0 := by
  rw [List.any_eq_true] at h
  obtain ⟨l, hl, hx⟩ := h
  obtain rfl := isw_eq hx
  revert hl
  have : ∀ l ∈ twos, ari ⟨l.toArray⟩ = 2 ∧ knd ⟨l.toArray⟩ = 0 := by decide +kernel
  exact this l
theorem ones_kn {x : ByteArray} (h : ones.any (isw x) = true) : ari x = 1 ∧ knd x = 0 := by
  rw [List.any_eq_true] at h
  obtain ⟨l, hl, hx⟩ := h
  obtain rfl := isw_eq hx
  revert hl
  have : ∀ l ∈ ones, ari ⟨l.toArray⟩ = 1 ∧ knd ⟨l.toArray⟩ = 0 := by decide +kernel
  exact this l
theorem twos_at (w : World) : ∀ k, k < 6 → (w.alloc (.cells #[.string ⟨#[97, 100, 100]⟩, .string ⟨#[115, 117, 98]⟩, .string ⟨#[109, 117, 108]⟩, .string ⟨#[109, 97, 120]⟩, .string ⟨#[97, 98, 111, 118, 101]⟩, .string ⟨#[109, 97, 116, 109, 117, 108]⟩] 9)).cell? ⟨w.heap.size, k, none⟩ = some (.string ((sl twos).getD k em)) := by
  intro k hk
  have : k = 0 ∨ k = 1 ∨ k = 2 ∨ k = 3 ∨ k = 4 ∨ k = 5 := by omega
  rcases this with rfl | rfl | rfl | rfl | rfl | rfl <;> simp [sl, twos, str]
theorem ones_at (w : World) : ∀ k, k < 6 → (w.alloc (.cells #[.string ⟨#[114, 101, 108, 117]⟩, .string ⟨#[97, 98, 115]⟩, .string ⟨#[115, 116, 101, 112]⟩, .string ⟨#[115, 105, 103, 110]⟩, .string ⟨#[116, 114, 97, 110, 115, 112, 111, 115, 101]⟩, .string ⟨#[115, 117, 109]⟩] 9)).cell? ⟨w.heap.size, k, none⟩ = some (.string ((sl ones).getD k em)) := by
  intro k hk
  have : k = 0 ∨ k = 1 ∨ k = 2 ∨ k = 3 ∨ k = 4 ∨ k = 5 := by omega
  rcases this with rfl | rfl | rfl | rfl | rfl | rfl <;> simp [sl, ones, str]
set_option maxHeartbeats 2000000 in
theorem kind_any (x : ByteArray) (w : World) : Calls Tryz.prog 12 #[.string x] w fun e w' => e = .returned (.tuple #[.int .i64 (ari x : Nat), .int .i64 (knd x : Nat)]) ∧ Below w.heap.size w w' := by
  obtain ⟨a, ha⟩ : ∃ a, ari x = a := ⟨_, rfl⟩
  obtain ⟨d, hd⟩ : ∃ d, knd x = d := ⟨_, rfl⟩
  have HR : Hid (ari x = a ∧ knd x = d) := ⟨ha, hd⟩
  rw [ha, hd]
  clear ha hd
  have HC : Hid _ := twos_at w
  have HB1 : Hid (Below w.heap.size w (w.alloc (.cells #[.string ⟨#[97, 100, 100]⟩, .string ⟨#[115, 117, 98]⟩, .string ⟨#[109, 117, 108]⟩, .string ⟨#[109, 97, 120]⟩, .string ⟨#[97, 98, 111, 118, 101]⟩, .string ⟨#[109, 97, 116, 109, 117, 108]⟩] 9))) := (Below.refl _ _).alloc (Nat.le_refl _) _
  go_enter Tryz.func12, Tryz.ntmps12
  go_wp2_with fail
  go_loop [10] (fun i => ∃ k : Nat, k ≤ 6 ∧ i = .int .i64 (k : Int) ∧ ∀ j, j < k → (((sl twos).getD j em).toList == x.toList) = false) (fun i => 6 - (intOf i).toNat)
  case atStart => exact ⟨0, by omega, rfl, fun j hj => by omega⟩
  case round =>
    obtain ⟨k, hk, rfl, hj⟩ := hrel
    have HJ : Hid _ := hj
    clear hj
    by_cases h : k < 6
    · have hc := HC.out k h
      obtain ⟨y, hy⟩ : ∃ y, (sl twos).getD k em = y := ⟨_, rfl⟩
      rw [hy] at hc
      have HY : Hid _ := hy
      clear hy
      cases he : y.toList == x.toList with
      | true =>
        have HE : Hid _ := he
        obtain ⟨e1, e2⟩ := twos_kn (x := x) (any_yes (ls := twos) h (by rw [HY.out]; exact HE.out))
        have HR := HR.out
        rw [e1, e2] at HR
        obtain ⟨rfl, rfl⟩ := HR
        clear e1 e2
        go_wp2
        go_ret2
        exact ⟨rfl, HB1.out⟩
      | false =>
        have HE : Hid _ := he
        go_wp2
        go_round
        case rel =>
          refine ⟨k + 1, by omega, by go_num, fun j hj => ?_⟩
          by_cases e : j = k
          · rw [e, HY.out]; exact HE.out
          · exact HJ.out j (by omega)
        case measure => simp [intOf]; omega
    · obtain rfl : k = 6 := by omega
      have HA : Hid (twos.any (isw x) = false) := any_no (ls := twos) (fun j hj => HJ.out j hj)
      clear HJ h hk
      have HA0 : Hid _ := HA.out
      clear HA HC
      have HC : Hid _ := ones_at (w.alloc (.cells #[.string ⟨#[97, 100, 100]⟩, .string ⟨#[115, 117, 98]⟩, .string ⟨#[109, 117, 108]⟩, .string ⟨#[109, 97, 120]⟩, .string ⟨#[97, 98, 111, 118, 101]⟩, .string ⟨#[109, 97, 116, 109, 117, 108]⟩] 9))
      have HB2 : Hid (Below w.heap.size w ((w.alloc (.cells #[.string ⟨#[97, 100, 100]⟩, .string ⟨#[115, 117, 98]⟩, .string ⟨#[109, 117, 108]⟩, .string ⟨#[109, 97, 120]⟩, .string ⟨#[97, 98, 111, 118, 101]⟩, .string ⟨#[109, 97, 116, 109, 117, 108]⟩] 9)).alloc (.cells #[.string ⟨#[114, 101, 108, 117]⟩, .string ⟨#[97, 98, 115]⟩, .string ⟨#[115, 116, 101, 112]⟩, .string ⟨#[115, 105, 103, 110]⟩, .string ⟨#[116, 114, 97, 110, 115, 112, 111, 115, 101]⟩, .string ⟨#[115, 117, 109]⟩] 9))) := HB1.out.alloc (by simp) _
      rw [show (w.alloc (.cells #[.string ⟨#[97, 100, 100]⟩, .string ⟨#[115, 117, 98]⟩, .string ⟨#[109, 117, 108]⟩, .string ⟨#[109, 97, 120]⟩, .string ⟨#[97, 98, 111, 118, 101]⟩, .string ⟨#[109, 97, 116, 109, 117, 108]⟩] 9)).heap.size = w.heap.size + 1 by simp] at HC
      go_wp2_with fail
      go_loop [20] (fun i => ∃ k : Nat, k ≤ 6 ∧ i = .int .i64 (k : Int) ∧ ∀ j, j < k → (((sl ones).getD j em).toList == x.toList) = false) (fun i => 6 - (intOf i).toNat)
      case atStart => exact ⟨0, by omega, rfl, fun j hj => by omega⟩
      case round =>
        obtain ⟨k, hk, rfl, hj⟩ := hrel
        have HJ : Hid _ := hj
        clear hj
        by_cases h : k < 6
        · have hc := HC.out k h
          obtain ⟨y, hy⟩ : ∃ y, (sl ones).getD k em = y := ⟨_, rfl⟩
          rw [hy] at hc
          have HY : Hid _ := hy
          clear hy
          cases he : y.toList == x.toList with
          | true =>
            have HE : Hid _ := he
            obtain ⟨e1, e2⟩ := ones_kn (x := x) (any_yes (ls := ones) h (by rw [HY.out]; exact HE.out))
            have HR := HR.out
            rw [e1, e2] at HR
            obtain ⟨rfl, rfl⟩ := HR
            clear e1 e2
            go_wp2
            go_ret2
            exact ⟨rfl, HB2.out⟩
          | false =>
            have HE : Hid _ := he
            go_wp2
            go_round
            case rel =>
              refine ⟨k + 1, by omega, by go_num, fun j hj => ?_⟩
              by_cases e : j = k
              · rw [e, HY.out]; exact HE.out
              · exact HJ.out j (by omega)
            case measure => simp [intOf]; omega
        · obtain rfl : k = 6 := by omega
          have HA : Hid (ones.any (isw x) = false) := any_no (ls := ones) (fun j hj => HJ.out j hj)
          clear HJ h hk
          cases hq : isw x lScale with
          | true =>
            obtain rfl := isw_eq hq
            have e1 : ari ⟨List.toArray lScale⟩ = 1 := by decide +kernel
            have e2 : knd ⟨List.toArray lScale⟩ = 1 := by decide +kernel
            have HR := HR.out
            rw [e1, e2] at HR
            obtain ⟨rfl, rfl⟩ := HR
            clear e1 e2 hq HR
            go_wp2
            go_ret2
            exact ⟨rfl, HB2.out⟩
          | false =>
            have H0 : Hid _ := hq
            have g0 := isw_l hq
            clear hq
            cases hq : isw x lPower with
            | true =>
              obtain rfl := isw_eq hq
              have e1 : ari ⟨List.toArray lPower⟩ = 1 := by decide +kernel
              have e2 : knd ⟨List.toArray lPower⟩ = 2 := by decide +kernel
              have HR := HR.out
              rw [e1, e2] at HR
              obtain ⟨rfl, rfl⟩ := HR
              clear e1 e2 hq HR
              go_wp2
              go_ret2
              exact ⟨rfl, HB2.out⟩
            | false =>
              have H1 : Hid _ := hq
              have g1 := isw_l hq
              clear hq
              cases hq : isw x lReshape with
              | true =>
                obtain rfl := isw_eq hq
                have e1 : ari ⟨List.toArray lReshape⟩ = 1 := by decide +kernel
                have e2 : knd ⟨List.toArray lReshape⟩ = 3 := by decide +kernel
                have HR := HR.out
                rw [e1, e2] at HR
                obtain ⟨rfl, rfl⟩ := HR
                clear e1 e2 hq HR
                go_wp2
                go_ret2
                exact ⟨rfl, HB2.out⟩
              | false =>
                have H2 : Hid _ := hq
                have g2 := isw_l hq
                clear hq
                cases hq : isw x lSpread with
                | true =>
                  obtain rfl := isw_eq hq
                  have e1 : ari ⟨List.toArray lSpread⟩ = 1 := by decide +kernel
                  have e2 : knd ⟨List.toArray lSpread⟩ = 3 := by decide +kernel
                  have HR := HR.out
                  rw [e1, e2] at HR
                  obtain ⟨rfl, rfl⟩ := HR
                  clear e1 e2 hq HR
                  go_wp2
                  go_ret2
                  exact ⟨rfl, HB2.out⟩
                | false =>
                  have g3 := isw_l hq
                  have e1 : ari x = 0 := ari_none HA0.out HA.out H0.out H1.out H2.out hq
                  have e2 : knd x = 0 := by unfold knd; rw [H0.out, H1.out, H2.out, hq]; rfl
                  have HR := HR.out
                  rw [e1, e2] at HR
                  obtain ⟨rfl, rfl⟩ := HR
                  clear e1 e2 hq HR
                  go_wp2
                  go_ret2
                  exact ⟨rfl, HB2.out⟩

theorem same_any (a1 a2 : Option Addr) (xs : List ByteArray) (c1 c2 : Nat) (w : World) (hl : xs.length ≤ 1000000) (h1 : Row w a1 (txts xs)) (h2 : Row w a2 (txts xs)) :
    Calls Tryz.prog 18 #[.slice a1 xs.length c1, .slice a2 xs.length c2] w fun e w' => e = .returned (.bool true) ∧ Below w.heap.size w w' := by
  have HR1 : Hid _ := fun (v : World) (hb : Below w.heap.size w v) i (h : i < xs.length) => row_str (h1.below hb) h
  have HR2 : Hid _ := fun (v : World) (hb : Below w.heap.size w v) i (h : i < xs.length) => row_str (h2.below hb) h
  obtain ⟨n, hn⟩ : ∃ n, xs.length = n := ⟨_, rfl⟩
  rw [hn] at HR1 HR2 hl ⊢
  clear h1 h2 hn
  go_enter Tryz.func18, Tryz.ntmps18
  go_wp2_with fail
  go_loopw [5] (fun i wr => ∃ k : Nat, k ≤ n ∧ i = .int .i64 (k : Int) ∧ Below w.heap.size w wr) (fun i _ => n - (intOf i).toNat)
  case atStart => exact ⟨0, by omega, rfl, Below.refl _ _⟩
  case round =>
    obtain ⟨k, hk, rfl, hb⟩ := hrel
    by_cases h : k < n
    · obtain ⟨b, off, rfl, hc⟩ := HR1.out wr hb k h
      obtain ⟨b', off', rfl, hc'⟩ := HR2.out wr hb k h
      generalize xs.getD k em = x at hc hc'
      have m1 : (0 : Int) ≤ (k : Int) := by omega
      have m2 : (k : Int) < (n : Int) := by omega
      go_wp2_with fail
      go_region
      go_wp2
      go_roundw
      case rel => exact ⟨k + 1, by omega, by go_num, hb.drew⟩
      case measure => simp [intOf]; omega
    · go_wp2
      go_ret
      exact ⟨rfl, hb⟩
/-- a statement that can be read -/
def Sr (w : World) (v : Value) (s : Sm) : Prop := ∃ a1 c1 a2 c2 a3 c3, v = sv s.name s.op (.slice a1 s.args.length c1) (.slice a2 s.dims.length c2) s.k s.n (.slice a3 s.data.length c3) ∧ Row w a1 (txts s.args) ∧ Sp.Sl w a2 s.dims ∧ Row w a3 (txts s.data)
theorem Sr.below {w w' : World} {v : Value} {s : Sm} (h : Sr w v s) (hb : Below w.heap.size w w') : Sr w' v s := by
  obtain ⟨a1, c1, a2, c2, a3, c3, e, h1, h2, h3⟩ := h
  exact ⟨a1, c1, a2, c2, a3, c3, e, h1.below hb, h2.below hb, h3.below hb⟩
theorem So.read {w : World} {B : Nat} {v : Value} {s : Sm} (h : So w B v s) : Sr w v s := by
  obtain ⟨ua, ud, ut, e, h1, h2, h3⟩ := h
  obtain ⟨a1, c1, rfl, r1, _⟩ := h1.form
  obtain ⟨a2, c2, rfl, r2⟩ := h2.form
  obtain ⟨a3, c3, rfl, r3, _⟩ := h3.form
  exact ⟨a1, c1, a2, c2, a3, c3, e, r1, r2, r3⟩
theorem Sr.zero (w : World) : Sr w zv zr := ⟨none, 0, none, 0, none, 0, rfl, Row.nil _ _, Sp.Sl.nil _ _, Row.nil _ _⟩
theorem refSame_yes (a1 a2 : Option Addr) (zs : List Int) (c1 c2 : Nat) (w : World) (hl : zs.length ≤ 1000) (hS : Sp.Sl w a1 zs) (hT : Sp.Sl w a2 zs) :
    Calls Tryz.prog 19 #[.slice a1 zs.length c1, .slice a2 zs.length c2] w fun e w' => e = .returned (.bool true) ∧ Below w.heap.size w w' := by
  refine (Sp.refSame_any a1 a2 zs zs c1 c2 w hl hl hS hT).mono ?_
  rintro e w' ⟨rfl, h⟩
  exact ⟨by simp, h.below _⟩
set_option maxHeartbeats 4000000 in
theorem Equal_any (v1 v2 : Value) (s : Sm) (w : World) (h1 : Sr w v1 s) (h2 : Sr w v2 s) (hn : s.args.length ≤ 1000000 ∧ s.dims.length ≤ 1000 ∧ s.data.length ≤ 1000000) :
    Calls Tryz.prog 8 #[v1, v2] w fun e w' => e = .returned (.bool true) ∧ Below w.heap.size w w' := by
  obtain ⟨a1, c1, a2, c2, a3, c3, rfl, r1, r2, r3⟩ := h1
  obtain ⟨b1, d1, b2, d2, b3, d3, rfl, t1, t2, t3⟩ := h2
  have HB : Hid (∀ o1 o2, Below w.heap.size w ((w.alloc o1).alloc o2)) := fun o1 o2 => ((Below.refl _ w).alloc (Nat.le_refl _) o1).alloc (by simp) o2
  have H1 : Hid (∀ v, Below w.heap.size w v → Calls Tryz.prog 18 #[.slice a1 s.args.length c1, .slice b1 s.args.length d1] v fun e w' => e = .returned (.bool true) ∧ Below v.heap.size v w') := fun v hv => same_any a1 b1 s.args c1 d1 v hn.1 (r1.below hv) (t1.below hv)
  have H2 : Hid (∀ v, Below w.heap.size w v → Calls Tryz.prog 19 #[.slice a2 s.dims.length c2, .slice b2 s.dims.length d2] v fun e w' => e = .returned (.bool true) ∧ Below v.heap.size v w') := fun v hv => refSame_yes a2 b2 s.dims c2 d2 v hn.2.1 (r2.below hv) (t2.below hv)
  have H3 : Hid (∀ v, Below w.heap.size w v → Calls Tryz.prog 18 #[.slice a3 s.data.length c3, .slice b3 s.data.length d3] v fun e w' => e = .returned (.bool true) ∧ Below v.heap.size v w') := fun v hv => same_any a3 b3 s.data c3 d3 v hn.2.2 (r3.below hv) (t3.below hv)
  generalize s.args.length = n1 at H1 ⊢
  generalize s.dims.length = n2 at H2 ⊢
  generalize s.data.length = n3 at H3 ⊢
  clear r1 r2 r3 t1 t2 t3 hn
  go_enter Tryz.func8, Tryz.ntmps8
  go_wp2_with fail
  refine (H1.out _ (HB.out _ _)).mono ?_
  rintro e w1 ⟨rfl, k1⟩
  obtain ⟨o1, o2, _, _, hB⟩ := own2 k1
  have q3 := o1 3
  have z3 := o2 3
  have q4 := o1 4
  have z4 := o2 4
  have q5 := o1 5
  have z5 := o2 5
  have q6 := o1 6
  have z6 := o2 6
  simp at q3 q4 q5 q6 z3 z4 z5 z6
  have HB1 : Hid _ := hB
  clear o1 o2 k1 hB HB
  go_wp2_with fail
  refine (H2.out _ HB1.out).mono ?_
  rintro e w2 ⟨rfl, k2⟩
  have p4 := cell_below k2 q4
  have p5 := cell_below k2 q5
  have p6 := cell_below k2 q6
  have y4 := cell_below k2 z4
  have y5 := cell_below k2 z5
  have y6 := cell_below k2 z6
  have HB2 : Hid _ := HB1.out.trans (k2.mono HB1.out.size)
  clear k2 q3 q4 q5 q6 z3 z4 z5 z6
  go_wp2_with fail
  refine (H3.out _ HB2.out).mono ?_
  rintro e w3 ⟨rfl, k3⟩
  have HB3 : Hid _ := HB2.out.trans (k3.mono HB2.out.size)
  clear k3 p4 p5 p6 y4 y5 y6
  go_wp2
  go_ret
  exact ⟨rfl, HB3.out⟩
end Go.Proofs.YtokfkmncabmmcaaGreatDoor.Rd
