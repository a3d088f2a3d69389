/-
  WHETHER A TENSOR IS SMALL, AND WHETHER TWO ARE THE SAME: what calls of the document's Small and Equal give. Conditions: each theorem's own.
-/
import Derived.Test.YtjkobbpebnkimaaGreatDoorMd
import Derived.BigRegion
import Derived.BigQuiet
namespace Go.Proofs.YtjkobbpebnkimaaGreatDoor.Tn
set_option maxRecDepth 100000
open Go.RowKit Nm
set_option linter.unusedVariables false

/-- short enough -/
def small (zs : List Int) (xs : List ByteArray) : Bool := decide (zs.length ≤ 10) && decide (xs.length ≤ 70) && xs.all fun x => decide (x.size ≤ 40)
theorem small_of {zs : List Int} {xs : List ByteArray} (h : small zs xs = true) : zs.length ≤ 10 ∧ xs.length ≤ 70 ∧ ∀ x, x ∈ xs → x.size ≤ 40 := by
  unfold small at h
  simp only [Bool.and_eq_true, decide_eq_true_eq, List.all_eq_true] at h
  exact ⟨h.1.1, h.1.2, h.2⟩
theorem small_mk {zs : List Int} {xs : List ByteArray} (h1 : zs.length ≤ 10) (h2 : xs.length ≤ 70) (h3 : ∀ i, i < xs.length → (xs.getD i ByteArray.empty).size ≤ 40) : small zs xs = true := by
  unfold small
  simp only [Bool.and_eq_true, decide_eq_true_eq, List.all_eq_true]
  refine ⟨⟨h1, h2⟩, fun x hx => ?_⟩
  obtain ⟨i, hi, rfl⟩ := List.getElem_of_mem hx
  have := h3 i hi
  simpa [List.getD, hi] using this
theorem small_no {zs : List Int} {xs : List ByteArray} {i : Nat} (hi : i < xs.length) (h : 40 < (xs.getD i ByteArray.empty).size) : small zs xs = false := by
  apply Bool.eq_false_iff.2
  intro c
  have := (small_of c).2.2 (xs.getD i ByteArray.empty) (by simp [List.getD, hi])
  omega
theorem row_str {w : World} {bo : Option Addr} {xs : List ByteArray} (h : Row w bo (txts xs)) {i : Nat} (hi : i < xs.length) : ∃ b off, bo = some ⟨b, off, none⟩ ∧ w.cell? ⟨b, off + i, none⟩ = some (.string (xs.getD i ByteArray.empty)) := h i _ (txts_at hi)

set_option maxHeartbeats 1000000 in
theorem small_any (ao bo : Option Addr) (zs : List Int) (xs : List ByteArray) (c d : Nat) (w : World) (hR : Row w bo (txts xs)) :
    Calls Tryz.prog 11 #[.agg #[.slice ao zs.length c, .slice bo xs.length d]] w fun e w' => e = .returned (.bool (small zs xs)) ∧ w' = w.alloc (.cells #[.slice ao zs.length c, .slice bo xs.length d] 25) := by
  have hno : ¬ (zs.length ≤ 10 ∧ xs.length ≤ 70) → small zs xs = false := fun h => Bool.eq_false_iff.2 fun c => h ⟨(small_of c).1, (small_of c).2.1⟩
  have HM : Hid (zs.length ≤ 10 → ∀ h : xs.length ≤ 70, (∀ i, i < xs.length → (xs.getD i ByteArray.empty).size ≤ 40) → small zs xs = true) := fun h1 h2 h3 => small_mk h1 h2 h3
  have HN : Hid (∀ i, i < xs.length → 40 < (xs.getD i ByteArray.empty).size → small zs xs = false) := fun i hi h => small_no hi h
  generalize small zs xs = sm at hno HM HN ⊢
  obtain ⟨n, hn⟩ : ∃ n, xs.length = n := ⟨_, rfl⟩
  have hrow := fun i (h : i < xs.length) => row_str (hR.below ((Below.refl _ _).alloc (Nat.le_refl _) (.cells #[.slice ao zs.length c, .slice bo n d] 25))) h
  rw [hn] at hno HM HN hrow ⊢
  generalize zs.length = m at hno HM hrow ⊢
  clear hR hn
  by_cases h1 : 10 < m
  · rw [hno (by omega)]
    clear hrow hno HM HN
    go_enter Tryz.func11, Tryz.ntmps11
    go_wp2
    go_ret
    exact ⟨rfl, rfl⟩
  by_cases h2 : 70 < n
  · rw [hno (by omega)]
    clear hrow hno HM HN
    go_enter Tryz.func11, Tryz.ntmps11
    go_wp2
    go_ret
    exact ⟨rfl, rfl⟩
  have HR : Hid _ := hrow
  clear hno hrow
  go_enter Tryz.func11, Tryz.ntmps11
  go_wp2
  go_loop [3] (fun i => ∃ k : Nat, k ≤ n ∧ i = .int .i64 k ∧ ∀ j, j < k → (xs.getD j ByteArray.empty).size ≤ 40) (fun i => n - (intOf i).toNat)
  case atStart => exact ⟨0, by omega, rfl, fun j hj => by omega⟩
  case round =>
    obtain ⟨k, hk, rfl, hj⟩ := hrel
    have HJ : Hid _ := hj
    clear hj
    by_cases h : k < n
    · obtain ⟨b, off, rfl, hc⟩ := HR.out k h
      obtain ⟨t, ht⟩ : ∃ t, xs.getD k ByteArray.empty = t := ⟨_, rfl⟩
      rw [ht] at hc
      have HT : Hid _ := ht
      clear ht
      by_cases h40 : 40 < t.size
      · go_wp2
        go_ret
        exact ⟨Sp.ret_bool (HN.out k h (by rw [HT.out]; exact h40)).symm, rfl⟩
      · go_wp2
        go_round
        case rel =>
          refine ⟨k + 1, by omega, by go_num, fun j hj => ?_⟩
          by_cases e : j = k
          · rw [e, HT.out]; omega
          · exact HJ.out j (by omega)
        case measure => simp [intOf]; omega
    · go_wp2
      go_ret
      exact ⟨Sp.ret_bool (HM.out (by omega) (by omega) (fun i hi => HJ.out i (by omega))).symm, rfl⟩

theorem str_ext {xs ys : List ByteArray} (hl : xs.length = ys.length) (h : ∀ i, i < xs.length → xs.getD i ByteArray.empty = ys.getD i ByteArray.empty) : xs = ys := by
  apply List.ext_getElem hl
  intro i h1 h2
  have := h i h1
  simpa [List.getD, h1, h2] using this
theorem ne_toList {a b : ByteArray} (h : a ≠ b) : (a.toList == b.toList) = false := by
  apply beq_false_of_ne
  intro c
  exact h (ba_ext (by rw [← toList_data, ← toList_data]; exact c))

set_option maxHeartbeats 2000000 in
theorem equal_any (a1 b1 a2 b2 : Option Addr) (zs us : List Int) (xs ys : List ByteArray) (c1 d1 c2 d2 : Nat) (w : World) (B1 B2 : Nat) (h1 : Tm w B1 a1 b1 zs xs) (h2 : Tm w B2 a2 b2 us ys) (hl1 : zs.length ≤ 1000) (hl2 : us.length ≤ 1000) (hn1 : xs.length ≤ 1000) (hn2 : ys.length ≤ 1000) :
    Calls Tryz.prog 19 #[.agg #[.slice a1 zs.length c1, .slice b1 xs.length d1], .agg #[.slice a2 us.length c2, .slice b2 ys.length d2]] w fun e w' => e = .returned (.bool (decide (zs = us ∧ xs = ys))) ∧ Below w.heap.size w w' := by
  have hsame := fun (v : World) (hb : Below w.heap.size w v) => Sp.refSame_any a1 a2 zs us c1 c2 v hl1 hl2 (h1.s.below hb) (h2.s.below hb)
  by_cases hz : zs = us
  · rw [decide_eq_true hz] at hsame
    have e0 : decide (zs = us ∧ xs = ys) = decide (xs = ys) := by simp [hz]
    rw [e0]
    by_cases hl : xs.length = ys.length
    · have hb : ((xs.length : Int) != ys.length) = false := by simp [hl]
      have HX : Hid ((∀ i, i < xs.length → xs.getD i ByteArray.empty = ys.getD i ByteArray.empty) → xs = ys) := fun h => str_ext hl h
      have HR1 : Hid _ := fun (v : World) (hb : Below w.heap.size w v) i (h : i < xs.length) => row_str (h1.r.below hb) h
      have HR2 : Hid _ := fun (v : World) (hb : Below w.heap.size w v) i (h : i < ys.length) => row_str (h2.r.below hb) h
      obtain ⟨n, hn⟩ : ∃ n, xs.length = n := ⟨_, rfl⟩
      have hm : ys.length = n := by omega
      rw [hn] at HX HR1 hn1 ⊢
      rw [hm] at HR2 ⊢
      generalize zs.length = p1 at hsame ⊢
      generalize us.length = p2 at hsame ⊢
      clear h1 h2 hl hb hn hm e0 hz hl1 hl2 hn2
      go_enter Tryz.func19, Tryz.ntmps19
      go_wp2_with fail
      refine (hsame _ (((Below.refl _ _).alloc (Nat.le_refl _) _).alloc (by simp) _)).mono ?_
      rintro e w1 ⟨rfl, hs⟩
      clear hsame
      obtain ⟨w0, hw0⟩ : ∃ w0, w0 = (w.alloc (.cells #[.slice a1 p1 c1, .slice b1 n d1] 25)).alloc (.cells #[.slice a2 p2 c2, .slice b2 n d2] 25) := ⟨_, rfl⟩
      rw [← hw0] at hs
      have HB0 : Hid (Below w.heap.size w w0) := by subst hw0; exact ((Below.refl _ _).alloc (Nat.le_refl _) _).alloc (by simp) _
      have q0 : ∀ v, Sp.Sm w0 v → v.cell? ⟨w.heap.size, 1, none⟩ = some (.slice b1 n d1) := fun v hv => by rw [hv.cell]; subst hw0; simp
      have q1 : ∀ v, Sp.Sm w0 v → v.cell? ⟨w.heap.size + 1, 1, none⟩ = some (.slice b2 n d2) := fun v hv => by rw [hv.cell]; subst hw0; simp
      have HQ : Hid _ := And.intro q0 q1
      have p0 := q0 w1 hs
      have p1 := q1 w1 hs
      have HS : Hid _ := hs
      clear hw0 hs q0 q1
      go_wp2_with fail
      go_loopw [5] (fun i wr => ∃ k : Nat, k ≤ n ∧ i = .int .i64 k ∧ (∀ j, j < k → xs.getD j ByteArray.empty = ys.getD j ByteArray.empty) ∧ Sp.Sm w0 wr) (fun i _ => n - (intOf i).toNat)
      case atStart => exact ⟨0, by omega, rfl, fun j hj => by omega, HS.out⟩
      case round =>
        obtain ⟨k, hk, rfl, hj, hs⟩ := hrel
        clear p0 p1 HS
        have p0 := HQ.out.1 wr hs
        have p1 := HQ.out.2 wr hs
        have HJ : Hid _ := hj
        have HS : Hid _ := hs
        clear hj
        by_cases h : k < n
        · obtain ⟨b, off, rfl, hc⟩ := HR1.out wr (HB0.out.trans ((hs.below _).mono HB0.out.size)) k h
          obtain ⟨b', off', rfl, hd⟩ := HR2.out wr (HB0.out.trans ((hs.below _).mono HB0.out.size)) k h
          clear hs
          obtain ⟨x, hx⟩ : ∃ z, xs.getD k ByteArray.empty = z := ⟨_, rfl⟩
          obtain ⟨y, hy⟩ : ∃ z, ys.getD k ByteArray.empty = z := ⟨_, rfl⟩
          rw [hx] at hc
          rw [hy] at hd
          have HY : Hid (xs.getD k ByteArray.empty = x ∧ ys.getD k ByteArray.empty = y) := ⟨hx, hy⟩
          clear hx hy
          by_cases he : x = y
          · subst he
            go_wp2
            go_region
            go_wp2
            go_roundw
            case rel =>
              refine ⟨k + 1, by omega, by go_num, fun j hj => ?_, HS.out.trans (Sp.Sm.drew _)⟩
              by_cases e : j = k
              · rw [e, HY.out.1, HY.out.2]
              · exact HJ.out j (by omega)
            case measure => simp [intOf]; omega
          · have hne := ne_toList he
            have HE : Hid _ := he
            clear he
            go_wp2
            go_region
            go_wp2
            go_ret
            refine ⟨Sp.ret_bool ?_, HB0.out.trans (((HS.out.trans (Sp.Sm.drew _)).below _).mono HB0.out.size)⟩
            have : ¬ xs = ys := fun c => HE.out (by rw [← HY.out.1, ← HY.out.2, c])
            simp [this]
        · clear hs
          go_wp2
          go_ret
          refine ⟨Sp.ret_bool ?_, HB0.out.trans ((HS.out.below _).mono HB0.out.size)⟩
          have : xs = ys := HX.out (fun i hi => HJ.out i (by omega))
          simp [this]
    · have hb : ((xs.length : Int) != ys.length) = true := by simp; omega
      have hne : ¬ xs = ys := fun c => hl (by rw [c])
      rw [decide_eq_false hne]
      generalize zs.length = p1 at hsame ⊢
      generalize us.length = p2 at hsame ⊢
      generalize xs.length = n1 at hb ⊢
      generalize ys.length = n2 at hb ⊢
      clear h1 h2 hl e0 hz hl1 hl2 hn1 hn2 hne
      go_enter Tryz.func19, Tryz.ntmps19
      go_wp2_with fail
      refine (hsame _ (((Below.refl _ _).alloc (Nat.le_refl _) _).alloc (by simp) _)).mono ?_
      rintro e w1 ⟨rfl, hs⟩
      have q0 : w1.cell? ⟨w.heap.size, 1, none⟩ = some (.slice b1 n1 d1) := by rw [hs.cell]; simp
      have q1 : w1.cell? ⟨w.heap.size + 1, 1, none⟩ = some (.slice b2 n2 d2) := by rw [hs.cell]; simp
      have HB : Hid (Below w.heap.size w w1) := (((Below.refl w.heap.size w).alloc (Nat.le_refl _) _).alloc (by simp) _).trans (hs.below _)
      clear hs hsame
      go_wp2
      go_ret
      exact ⟨rfl, HB.out⟩
  · rw [decide_eq_false hz] at hsame
    have e0 : decide (zs = us ∧ xs = ys) = false := by simp [hz]
    rw [e0]
    generalize zs.length = p1 at hsame ⊢
    generalize us.length = p2 at hsame ⊢
    generalize xs.length = n1
    generalize ys.length = n2
    clear h1 h2 e0 hz hl1 hl2 hn1 hn2
    go_enter Tryz.func19, Tryz.ntmps19
    go_wp2_with fail
    refine (hsame _ (((Below.refl _ _).alloc (Nat.le_refl _) _).alloc (by simp) _)).mono ?_
    rintro e w1 ⟨rfl, hs⟩
    have HB : Hid (Below w.heap.size w w1) := (((Below.refl w.heap.size w).alloc (Nat.le_refl _) _).alloc (by simp) _).trans (hs.below _)
    clear hs hsame
    go_wp2
    go_ret
    exact ⟨rfl, HB.out⟩
end Go.Proofs.YtjkobbpebnkimaaGreatDoor.Tn
