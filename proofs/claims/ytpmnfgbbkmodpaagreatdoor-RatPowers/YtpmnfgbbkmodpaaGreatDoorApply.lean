/-
  THE STEPS CARRIED OUT ON ALL LIMBS: what a call of apply gives. Conditions: sizes; the limbs' form; what comes out is not below 0.
-/
import Derived.Test.YtpmnfgbbkmodpaaGreatDoorSteps
import Derived.Test.YtpmnfgbbkmodpaaGreatDoorRef
import Derived.ArgAppend
namespace Go.Proofs.YtpmnfgbbkmodpaaGreatDoor
set_option maxRecDepth 100000
open Go.RowKit Nm
set_option linter.unusedVariables false

set_option maxHeartbeats 400000 in
theorem trim_big (b off len cap : Nat) (f : Nat → Nat) (w : World) (hl : len ≤ 1000000) (hlc : len ≤ cap) (hcap : cap ≤ maxLen) (hR : Rw w b off f len) :
    Calls Tryz.prog 125 #[.slice (some ⟨b, off, none⟩) len cap] w fun e w' => (∃ n, n ≤ len ∧ (∀ i, n ≤ i → i < len → f i = 0) ∧ (n = 0 ∨ f (n - 1) ≠ 0) ∧ e = .returned (.slice (some ⟨b, off, none⟩) n cap)) ∧ w' = w := by
  unfold maxLen at hcap
  go_enter Tryz.func125, Tryz.ntmps125
  go_wp2
  go_loop [3] (fun i => ∃ k : Nat, k ≤ len ∧ i = .int .i64 k ∧ (∀ i, k ≤ i → i < len → f i = 0)) (fun i => (intOf i).toNat)
  case atStart => exact ⟨len, Nat.le_refl _, rfl, fun i a b => by omega⟩
  case round =>
    obtain ⟨k, hk, rfl, hz⟩ := hrel
    by_cases h0 : 0 < k
    · have hc := hR (k - 1) (by omega)
      by_cases hf : f (k - 1) = 0
      · rw [hf] at hc
        go_wp2
        go_round
        case rel =>
          refine ⟨k - 1, by omega, by go_num, fun i a b => ?_⟩
          by_cases e : i = k - 1
          · rw [e]; exact hf
          · exact hz i (by omega) b
        case measure => simp [intOf]; omega
      · have hne : (((f (k - 1) : Nat) : Int) == 0) = false := by simp [hf]
        go_wp2
        go_ret
        exact ⟨⟨k, hk, hz, Or.inr hf, rfl⟩, rfl⟩
    · go_wp2
      go_ret
      exact ⟨⟨k, hk, hz, Or.inl (by omega), rfl⟩, rfl⟩

/-- what is owned, out of cells and shape -/
theorem own_of {w : World} {base g n cap : Nat} {f : Nat → Nat} (h : Ow w .i64 g f n) (hs : Shp w g cap) (hn : n ≤ cap) (hb : base ≤ g) : w.ownsRow base 2 1 (.slice (some ⟨g, 0, none⟩) n cap) n (vals f n) := by
  obtain ⟨cur, h1, h2, h3⟩ := hs
  refine ⟨by rw [vals_len]; omega, Or.inr ⟨g, cap, cur, rfl, hb, h1, hn, h3, by omega, ?_⟩⟩
  apply List.ext_getElem?
  intro j
  by_cases hj : j < n
  · have hc := h.cell j hj
    have e : w.cell? ⟨g, j, none⟩ = cur[j]? := by simp [World.cell?, h1]
    rw [e] at hc
    rw [List.getElem?_take_of_lt (by omega), Array.getElem?_toList, hc]
    simp [vals, hj]
  · rw [List.getElem?_eq_none (by simp; omega), List.getElem?_eq_none (by rw [vals_len]; omega)]

/-- the products of a mixture stay small -/
theorem mix_bd {p r x y : Nat} (hp : p < 1000000000) (hr : r < 1000000000) (hx : x < 1000000000) (hy : y < 1000000000) :
    (0 : Int) ≤ (p : Int) * (x : Int) ∧ (p : Int) * (x : Int) ≤ 999999998000000001 ∧ (0 : Int) ≤ (r : Int) * (y : Int) ∧ (r : Int) * (y : Int) ≤ 999999998000000001 := by
  have h1 := mul_bd hp hx
  have h2 := mul_bd hr hy
  rw [← Int.natCast_mul, ← Int.natCast_mul]
  omega

/-- two factors, the one from 0 on and the other one up to 0 -/
def Opp (u v : Int) : Prop := ∃ p r : Nat, p < 1000000000 ∧ r < 1000000000 ∧ ((u = p ∧ v = -(r : Int)) ∨ (u = -(p : Int) ∧ v = r))

theorem Opp.bd {u v : Int} (h : Opp u v) {x y : Nat} (hx : x < 1000000000) (hy : y < 1000000000) :
    -999999998000000001 ≤ u * (x : Int) ∧ u * (x : Int) ≤ 999999998000000001 ∧ -999999998000000001 ≤ v * (y : Int) ∧ v * (y : Int) ≤ 999999998000000001 ∧ -999999999000000000 ≤ u * (x : Int) + v * (y : Int) ∧ u * (x : Int) + v * (y : Int) ≤ 999999999000000000 := by
  obtain ⟨p, r, hp, hr, ⟨rfl, rfl⟩ | ⟨rfl, rfl⟩⟩ := h
  · have := mix_bd hp hr hx hy
    rw [Int.neg_mul]; omega
  · have := mix_bd hp hr hx hy
    rw [Int.neg_mul]; omega

def lenOf : Value → Nat | .slice _ n _ => n | _ => 0

theorem blk_lt {w : World} {b : Nat} {o : Obj} (h : w.heap[b]? = some o) : b < w.heap.size := by
  rcases Nat.lt_or_ge b w.heap.size with c | c
  · exact c
  · rw [Array.getElem?_eq_none c] at h; cases h

theorem Ow.same {w w' : World} {k : IntKind} {b n : Nat} {f : Nat → Nat} (h : Ow w k b f n) (e : w'.heap[b]? = w.heap[b]?) : Ow w' k b f n :=
  ⟨fun i hi => by rw [World.cell?_of_block (w := w) (a := ⟨b, i, none⟩) e]; exact h.cell i hi, fun i => by rw [World.frozen?_of_block (w := w) (a := ⟨b, i, none⟩) e]; exact h.frz i, by
    have : w.heap[b]? = some (w.heap[b]'h.lt) := Array.getElem?_eq_getElem h.lt
    rw [this] at e; exact blk_lt e⟩

theorem Shp.same {w w' : World} {g cap : Nat} (h : Shp w g cap) (e : w'.heap[g]? = w.heap[g]?) : Shp w' g cap := by
  obtain ⟨cur, h1, h2⟩ := h
  exact ⟨cur, by rw [e]; exact h1, h2⟩

theorem M4.same {w w' : World} {b : Nat} {p q r s : Int} (h : M4 w b p q r s) (e : w'.heap[b]? = w.heap[b]?) : M4 w' b p q r s :=
  ⟨by rw [World.cell?_of_block (w := w) e]; exact h.c0, by rw [World.cell?_of_block (w := w) e]; exact h.c1, by rw [World.cell?_of_block (w := w) e]; exact h.c2, by rw [World.cell?_of_block (w := w) e]; exact h.c3, fun i => by rw [World.frozen?_of_block (w := w) e]; exact h.frz i⟩

theorem alloc_same (w : World) (o : Obj) (j : Nat) (h : j < w.heap.size) : (w.alloc o).heap[j]? = w.heap[j]? := Below.heap_alloc w o j h

set_option maxRecDepth 100000 in
set_option maxHeartbeats 2000000 in
theorem apply_any (a b c d : Int) (g1 n1 c1 g2 n2 c2 base U V : Nat) (F G : Nat → Nat) (w : World) (hn1 : n1 ≤ 10000) (hn : n2 ≤ n1) (hc1 : n1 ≤ c1) (hc2 : n2 ≤ c2) (hne : g2 ≠ g1) (hb0 : base ≤ w.heap.size) (hb1 : base ≤ g1) (hb2 : base ≤ g2)
    (oF : Ow w .i64 g1 F n1) (sF : Shp w g1 c1) (oG : Ow w .i64 g2 G n2) (sG : Shp w g2 c2) (hF : ∀ i, i < n1 → F i < 1000000000) (hG : ∀ i, i < n2 → G i < 1000000000) (hab : Opp a b) (hcd : Opp c d)
    (hU : a * (lv F n1 : Int) + b * (lv G n2 : Int) = (U : Int)) (hV : c * (lv F n1 : Int) + d * (lv G n2 : Int) = (V : Int)) (hUl : U < 1000000000 ^ n1) (hVl : V < 1000000000 ^ n1) :
    Calls Tryz.prog 122 #[.agg #[.int .i64 a, .int .i64 b, .int .i64 c, .int .i64 d], .slice (some ⟨g1, 0, none⟩) n1 c1, .slice (some ⟨g2, 0, none⟩) n2 c2] w fun e w' =>
      ∃ k1 g k2 cap A B, e = .returned (.tuple #[.slice (some ⟨g1, 0, none⟩) k1 c1, .slice (some ⟨g, 0, none⟩) k2 cap]) ∧ Ow w' .i64 g1 A k1 ∧ Shp w' g1 c1 ∧ k1 ≤ c1 ∧ Nrm A k1 ∧ lv A k1 = U ∧ Ow w' .i64 g B k2 ∧ Shp w' g cap ∧ k2 ≤ cap ∧ Nrm B k2 ∧ lv B k2 = V ∧ g ≠ g1 ∧ base ≤ g ∧ k1 ≤ n1 ∧ k2 ≤ n1 ∧ Below base w w' := by
  obtain ⟨i0, hi, hz0, hz1, hz2⟩ := info_parts Tryz.info2
  have hg1l := oF.lt
  have hg2l := oG.lt
  have HU : Hid _ := hU
  have HV : Hid _ := hV
  have HUL : Hid _ := hUl
  have HVL : Hid _ := hVl
  clear hU hV hUl hVl
  go_enter Tryz.func122, Tryz.ntmps122
  go_wp2_with fail
  have hBx : M4 (w.alloc (.cells #[.int .i64 a, .int .i64 b, .int .i64 c, .int .i64 d] 139)) w.heap.size a b c d := by
    constructor <;> simp [go_sem]
  go_loopw [2] (fun v wr => ∃ k g cap, n2 ≤ k ∧ k ≤ n1 ∧ v = .slice (some ⟨g, 0, none⟩) k cap ∧ k ≤ cap ∧ g ≠ g1 ∧ g ≠ w.heap.size ∧ base ≤ g ∧ Ow wr .i64 g (ext G n2) k ∧ Shp wr g cap ∧ Ow wr .i64 g1 F n1 ∧ Shp wr g1 c1 ∧ M4 wr w.heap.size a b c d ∧ Below base w wr ∧ w.heap.size < wr.heap.size) (fun v _ => n1 - lenOf v)
  case atStart =>
    have e1 := alloc_same w (.cells #[.int .i64 a, .int .i64 b, .int .i64 c, .int .i64 d] 139) g1 hg1l
    have e2 := alloc_same w (.cells #[.int .i64 a, .int .i64 b, .int .i64 c, .int .i64 d] 139) g2 hg2l
    exact ⟨n2, g2, c2, Nat.le_refl _, hn, rfl, hc2, hne, by omega, hb2, (oG.same e2).congr (fun i hi => by unfold ext; rw [if_pos hi]), sG.same e2, oF.same e1, sF.same e1, hBx, (Below.refl _ _).alloc hb0 _, by simp⟩
  case round =>
    obtain ⟨k, g, cap, hk2, hk1, rfl, hkc, hgg, hgb, hgB, oE, sE, oF', sF', hM, hB, hsz⟩ := hrel
    clear hBx
    by_cases hlt : k < n1
    · have hcapm : cap ≤ maxLen := by obtain ⟨_, _, _, h⟩ := sE; exact h
      have hEk : ext G n2 k = 0 := by unfold ext; rw [if_neg (by omega)]
      have hvs : vals (ext G n2) k ++ [.int .i64 0] = vals (up (ext G n2) k 0) (k + 1) := vals_snoc (ext G n2) k 0
      have hup : ∀ i, i < k + 1 → up (ext G n2) k 0 i = ext G n2 i := fun i hi => by
        by_cases e : i = k
        · subst e; rw [up_same, hEk]
        · rw [up_other _ _ e]
      have HVS : Hid _ := hvs
      have HEK : Hid _ := hEk
      clear hvs hEk
      have sA := alloc_same wr (.cells #[.int .i64 0] 2)
      have SAM : Hid _ := sA
      clear sA
      have hown := own_of (base := base) oE sE hkc hgB
      have lE := oE.lt
      have lF := oF'.lt
      by_cases hroom : k + 1 ≤ cap
      · go_wp2_with (first | (at_builtin; refine wpList_append_fits _ rfl _ _ 114 rfl base 2 i0 1 Tryz.underlying114 hi hz1 g k cap (vals (ext G n2) k) rfl (hown.alloc _) _ 1 1 [.int .i64 0] rfl rfl (cell_one_new _ _ _) (by intro u hu; simp at hu; subst hu; rfl) hroom ?_))
        intro w3 hown3 hgrow3
        have hsz3 := hgrow3.size
        simp only [World.size_alloc] at hsz3
        have eq3 : ∀ j, j < wr.heap.size → j ≠ g → w3.heap[j]? = wr.heap[j]? := fun j hj hjg => by
          rw [hgrow3.block j (by simp; omega) (by simpa using hjg)]; exact SAM.out j hj
        rw [HVS.out] at hown3
        have oE3 := (Ow.of_vals hown3).congr hup
        have sE3 := Shp.of_own hown3
        have oF3 := oF'.same (eq3 g1 lF (Ne.symm hgg))
        have sF3 := sF'.same (eq3 g1 lF (Ne.symm hgg))
        have hM3 := hM.same (eq3 w.heap.size hsz (Ne.symm hgb))
        have hB3 := (hB.alloc (Nat.le_trans hb0 (by omega)) (.cells #[.int .i64 0] 2)).grown hgrow3 (by simp; omega) (fun j h => by simp at h; omega)
        clear eq3 hown3 hgrow3 hown
        go_wp2
        go_roundw
        case rel => exact ⟨k + 1, g, cap, by omega, by omega, rfl, hroom, hgg, hgb, hgB, oE3, sE3, oF3, sF3, hM3, hB3, by omega⟩
        case measure => simp [lenOf]; omega
      · have hcells : ∀ b, some (⟨g, 0, none⟩ : Addr) = some b → ∀ j u, (vals (ext G n2) k)[j]? = some u → (wr.alloc (.cells #[.int .i64 0] 2)).cell? (b.add j) = some u := by
          intro b hb j u hj
          cases hb
          obtain ⟨h1, rfl⟩ := vals_get _ _ _ _ hj
          rw [addr_add, World.cell?_of_block (w := wr) (a := ⟨g, 0 + j, none⟩) (SAM.out g lE), Nat.zero_add]
          exact oE.cell j h1
        go_wp2_with (first | (at_builtin; refine wpList_append_grows _ rfl _ _ 114 rfl 2 i0 (.int .i64 0) 1 8 Tryz.underlying114 hi hz0 hz1 hz2 rfl (by decide) (some ⟨g, 0, none⟩) k cap (vals (ext G n2) k) rfl (by intro h; cases h) (by rw [vals_len]; omega) hcells _ 1 1 [.int .i64 0] rfl rfl (cell_one_new _ _ _) (by intro u hu; simp at hu; subst hu; rfl) (by omega) (by unfold maxLen; omega) (by omega) ?_))
        intro v3 w3 hown3 hgrow3
        have hsz3 := hgrow3.size
        simp only [World.size_alloc] at hsz3
        have eq3 : ∀ j, j < wr.heap.size → w3.heap[j]? = wr.heap[j]? := fun j hj => by
          rw [hgrow3.block j (by simp; omega) (by simp)]; exact SAM.out j hj
        rw [HVS.out] at hown3
        obtain ⟨g3, c3, hv3, hc3, hg3⟩ := own_some hown3 (by omega)
        rw [hv3] at hown3
        rw [hv3]
        clear hv3
        have oE3 := (Ow.of_vals hown3).congr hup
        have sE3 := Shp.of_own hown3
        have oF3 := oF'.same (eq3 g1 lF)
        have sF3 := sF'.same (eq3 g1 lF)
        have hM3 := hM.same (eq3 w.heap.size hsz)
        have hB3 := (hB.alloc (Nat.le_trans hb0 (by omega)) (.cells #[.int .i64 0] 2)).grown hgrow3 (by simp; omega) (fun j h => by cases h)
        clear eq3 hown3 hgrow3 hown hcells
        go_wp2
        go_roundw
        case rel => exact ⟨k + 1, g3, c3, by omega, by omega, rfl, hc3, by omega, by omega, by omega, oE3, sE3, oF3, sF3, hM3, hB3, by omega⟩
        case measure => simp [lenOf]; omega
    · obtain rfl : k = n1 := by omega
      have lE := oE.lt
      have lF := oF'.lt
      have hGx := ext_lt hG
      have HVX : Hid (lv (ext G n2) k = lv G n2) := lv_ext hn
      go_wp2_with fail
      obtain ⟨wo, hwo⟩ : ∃ wo : World, wo = wr := ⟨_, rfl⟩
      subst hwo
      go_loopw [8, 9, 23] (fun x y i wr => ∃ (j : Nat) (A B : Nat → Nat) (cA cB : Int), j ≤ k ∧ i = .int .i64 (j : Nat) ∧ x = .int .i64 cA ∧ y = .int .i64 cB ∧ Ow wr .i64 g1 A k ∧ Ow wr .i64 g B k ∧ Shp wr g1 c1 ∧ Shp wr g cap ∧ M4 wr w.heap.size a b c d ∧ (∀ t, j ≤ t → t < k → A t = F t) ∧ (∀ t, j ≤ t → t < k → B t = ext G n2 t) ∧ MxI A F (ext G n2) a b j cA ∧ MxI B F (ext G n2) c d j cB ∧ Below base w wr) (fun _ _ i _ => k - (intOf i).toNat)
      case atStart => exact ⟨0, F, ext G n2, 0, 0, by omega, rfl, rfl, rfl, oF', oE, sF', sE, hM, fun _ _ _ => rfl, fun _ _ _ => rfl, ⟨fun i h => by omega, by omega, by omega, by simp [lv]⟩, ⟨fun i h => by omega, by omega, by omega, by simp [lv]⟩, hB⟩
      case round =>
        obtain ⟨j, A, B, cA, cB, hj, rfl, rfl, rfl, oA, oB, sA, sB, hM', eA, eB, iA, iB, hB'⟩ := hrel
        have bA1 := iA.clo
        have bA2 := iA.chi
        have bB1 := iB.clo
        have bB2 := iB.chi
        by_cases hlt2 : j < k
        · have clA := oA.cell j hlt2
          have clB := oB.cell j hlt2
          rw [eA j (Nat.le_refl _) hlt2] at clA
          rw [eB j (Nat.le_refl _) hlt2] at clB
          have fzA := oA.frz j
          have fzB := oB.frz j
          have x1 := hF j hlt2
          have x2 := hGx j
          obtain ⟨u1, u2, u3, u4, u5, u6⟩ := hab.bd x1 x2
          obtain ⟨y1, y2, y3, y4, y5, y6⟩ := hcd.bd x1 x2
          obtain ⟨lA, a1, a2, a3⟩ := iA.step u5 u6
          obtain ⟨lB, b1, b2, b3⟩ := iB.step y5 y6
          have m0 := hM'.c0
          have m1 := hM'.c1
          have m2 := hM'.c2
          have m3 := hM'.c3
          have A1 : Hid _ := a1
          have B1 : Hid _ := b1
          clear a1 b1
          have wA : Wr wr (wr.setCell ⟨g1, j, none⟩ (.int .i64 (lA : Nat))) g1 := (Wr.refl _ _).setCell _ _
          have oA2 := oA.store (j := j) hlt2 lA
          have oB1 := oB.kept wA hgg
          have oB2 := oB1.store (j := j) hlt2 lB
          have wB : Wr (wr.setCell ⟨g1, j, none⟩ (.int .i64 (lA : Nat))) ((wr.setCell ⟨g1, j, none⟩ (.int .i64 (lA : Nat))).setCell ⟨g, j, none⟩ (.int .i64 (lB : Nat))) g := (Wr.refl _ _).setCell _ _
          have oA3 := oA2.kept wB (Ne.symm hgg)
          have sA3 := (sA.setCell j (.int .i64 (lA : Nat))).kept wB (Ne.symm hgg)
          have sB3 := (sB.kept wA hgg).setCell j (.int .i64 (lB : Nat))
          have hM3 := ((hM'.kept wA (by omega)).kept wB (Ne.symm hgb))
          have hB3 := (hB'.trans (wA.below hb1)).trans (wB.below hgB)
          have clB1 : (wr.setCell ⟨g1, j, none⟩ (.int .i64 (lA : Nat))).cell? ⟨g, j, none⟩ = some (.int .i64 ((ext G n2 j : Nat) : Int)) := by
            rw [World.cell?_of_block (w := wr) (a := ⟨g, j, none⟩) (wA.block g hgg)]; exact clB
          have fzB1 : (wr.setCell ⟨g1, j, none⟩ (.int .i64 (lA : Nat))).frozen? ⟨g, j, none⟩ = false := by
            rw [World.frozen?_of_block (w := wr) (a := ⟨g, j, none⟩) (wA.block g hgg)]; exact fzB
          have hM1 := hM'.kept wA (by omega)
          obtain ⟨mm0, mm1, mm2, mm3, _⟩ := hM1
          go_wp2_with fail
          go_quiet (fail)
          go_wp2_with fail
          refine (split_any _ _ (by omega) (by omega)).mono ?_
          rintro e w2 ⟨rfl, rfl⟩
          rw [A1.out]
          generalize (a * ((F j : Nat) : Int) + b * ((ext G n2 j : Nat) : Int) + cA) / 1000000000 = cA2 at *
          go_wp2_with fail
          refine (split_any _ _ (by omega) (by omega)).mono ?_
          rintro e w2 ⟨rfl, rfl⟩
          rw [B1.out]
          go_wp2
          go_roundw
          case rel =>
            refine ⟨j + 1, _, _, _, _, by omega, by go_num, rfl, rfl, oA3.sm (Sm.drewN _ nq), oB2.sm (Sm.drewN _ nq), sA3.heap rfl, sB3.heap rfl, hM3.same rfl, fun t h1 h2 => ?_, fun t h1 h2 => ?_, a3, b3, hB3.trans ((Sm.drewN _ nq).below _)⟩
            · rw [up_other _ _ (by omega)]; exact eA t (by omega) h2
            · rw [up_other _ _ (by omega)]; exact eB t (by omega) h2
          case measure => simp [intOf]; omega
        · obtain rfl : j = k := by omega
          have vA := iA.done HUL.out (by rw [HVX.out]; exact HU.out)
          have vB := iB.done HVL.out (by rw [HVX.out]; exact HV.out)
          have cap1 : c1 ≤ maxLen := by obtain ⟨_, _, _, h⟩ := sA; exact h
          have cap2 : cap ≤ maxLen := by obtain ⟨_, _, _, h⟩ := sB; exact h
          have VA : Hid _ := vA
          have VB : Hid _ := vB
          clear vA vB
          go_wp2_with fail
          refine (trim_big g1 0 j c1 A _ (by omega) (by omega) cap1 oA.rw).mono ?_
          rintro e w2 ⟨⟨k1, hk1', kz1, kt1, rfl⟩, rfl⟩
          go_wp2_with fail
          refine (trim_big g 0 j cap B _ (by omega) (by omega) cap2 oB.rw).mono ?_
          rintro e w2 ⟨⟨k2, hk2', kz2, kt2, rfl⟩, rfl⟩
          go_wp2
          go_ret2
          exact ⟨k1, g, k2, cap, A, B, rfl, ⟨fun i hi => oA.cell i (by omega), oA.frz, oA.lt⟩, sA, by omega, ⟨fun i hi => iA.lim i (by omega), kt1⟩, by rw [← lv_cut hk1' kz1, VA.out], ⟨fun i hi => oB.cell i (by omega), oB.frz, oB.lt⟩, sB, by omega, ⟨fun i hi => iB.lim i (by omega), kt2⟩, by rw [← lv_cut hk2' kz2, VB.out], hgg, hgB, hk1', hk2', hB'⟩
end Go.Proofs.YtpmnfgbbkmodpaaGreatDoor
