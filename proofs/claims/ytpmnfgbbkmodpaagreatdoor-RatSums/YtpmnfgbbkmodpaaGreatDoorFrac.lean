/-
  FRACTIONS, THE SMALL CALLS: what gcd, add, multiply, shortened, aboveOne, text and negated of package rat give. Conditions: sizes.
-/
import Derived.Test.YtpmnfgbbkmodpaaGreatDoorRm
import Derived.Test.YtpmnfgbbkmodpaaGreatDoorCut
import Derived.Test.YtpmnfgbbkmodpaaGreatDoorCommon
import Derived.Test.YtpmnfgbbkmodpaaGreatDoorAw
namespace Go.Proofs.YtpmnfgbbkmodpaaGreatDoor
set_option maxRecDepth 100000
open Go.RowKit Nm
set_option linter.unusedVariables false

/-- a rational, as package rat keeps it -/
abbrev fr (r : Rat) : Value := .agg #[.string (W r.num), .string (S r.den)]

set_option maxHeartbeats 1000000 in
theorem gcd_S (a b : Nat) (w : World) (ha : tl a ≤ 10000) (hb : tl b ≤ 10000) :
    Calls Tryz.prog 60 #[.string (S a), .string (S b)] w fun e w' => e = .returned (.string (S (Nat.gcd a b))) ∧ Below w.heap.size w w' := by
  go_enter Tryz.func60, Tryz.ntmps60
  go_wp2_with fail
  refine (Gcd_any a b _ ha hb).mono ?_
  rintro e w1 ⟨rfl, h1⟩
  have H1 : Hid _ := h1
  clear h1
  go_wp2
  go_ret
  exact ⟨rfl, H1.out⟩

set_option maxHeartbeats 1000000 in
theorem add_W (a b : Int) (w : World) (ha : tl a.natAbs ≤ 5000) (hb : tl b.natAbs ≤ 5000) :
    Calls Tryz.prog 62 #[.string (W a), .string (W b)] w fun e w' => e = .returned (.string (W (a + b))) ∧ Below w.heap.size w w' := by
  go_enter Tryz.func62, Tryz.ntmps62
  go_wp2_with fail
  refine (Addw_W a b _ ha hb).mono ?_
  rintro e w1 ⟨rfl, h1⟩
  have H1 : Hid _ := h1
  clear h1
  go_wp2
  go_ret
  exact ⟨rfl, H1.out⟩

set_option maxHeartbeats 1000000 in
theorem mul_W (a b : Int) (w : World) (ha : tl a.natAbs ≤ 5000) (hb : tl b.natAbs ≤ 5000) :
    Calls Tryz.prog 63 #[.string (W a), .string (W b)] w fun e w' => e = .returned (.string (W (a * b))) ∧ Below w.heap.size w w' := by
  go_enter Tryz.func63, Tryz.ntmps63
  go_wp2_with fail
  refine (Mulw_W a b _ ha hb).mono ?_
  rintro e w1 ⟨rfl, h1⟩
  have H1 : Hid _ := h1
  clear h1
  go_wp2
  go_ret
  exact ⟨rfl, H1.out⟩

set_option maxHeartbeats 1000000 in
/-- a whole number by a natural that divides it -/
theorem short_W (z : Int) (g : Nat) (w : World) (hz : tl z.natAbs ≤ 10000) (hg : tl g ≤ 10000) (h0 : g ≠ 0) (hd : g ∣ z.natAbs) :
    Calls Tryz.prog 61 #[.string (W z), .string (S g)] w fun e w' => e = .returned (.string (W (z / (g : Int)))) ∧ Below w.heap.size w w' := by
  have hs : (W z).size ≤ 100000 := by have := W_size z; omega
  have HZ : Hid (sz (W z) = S z.natAbs) := sz_W z
  have HM : Hid (mn (W z) = decide (z < 0)) := mn_W z
  have HS : Hid _ := shorter h0 hd
  have hq : tl (z.natAbs / g) ≤ 10000 := Nat.le_trans (tl_mono (Nat.div_le_self _ _)) hz
  have hqs : (S (z.natAbs / g)).size ≤ 10000 := by rw [S_size]; exact hq
  have hg0 : 0 < g := Nat.pos_of_ne_zero h0
  by_cases hneg : z < 0
  · have HG := shorter_gt h0 hd hneg
    have HW : Hid (W (z / (g : Int)) = ⟨#[45]⟩ ++ S (z.natAbs / g)) := by
      unfold Hid; rw [← HS.out, decide_eq_true hneg, W_neg HG]
    have HN : Hid _ := hneg
    clear hneg hd HG
    go_enter Tryz.func61, Tryz.ntmps61
    go_wp2_with fail
    refine (size_any (W z) _ hs).mono ?_
    rintro e w1 ⟨rfl, rfl⟩
    rw [show sz (W z) = S z.natAbs from HZ.out]
    go_wp2_with fail
    refine (Div_any z.natAbs g _ hz hg hg0).mono ?_
    rintro e w1 ⟨rfl, h1⟩
    have H1 : Hid _ := h1
    clear h1
    generalize S (z.natAbs / g) = Y at *
    go_wp2_with fail
    refine (below_any (W z) _ hs).mono ?_
    rintro e w2 ⟨rfl, rfl⟩
    rw [show mn (W z) = true by rw [HM.out, decide_eq_true HN.out]]
    go_wp2
    go_ret
    exact ⟨by rw [HW.out]; rfl, H1.out⟩
  · have HW : Hid (W (z / (g : Int)) = S (z.natAbs / g)) := by
      unfold Hid; rw [← HS.out, decide_eq_false hneg, W_pos]
    have HN : Hid _ := hneg
    clear hneg hd
    go_enter Tryz.func61, Tryz.ntmps61
    go_wp2_with fail
    refine (size_any (W z) _ hs).mono ?_
    rintro e w1 ⟨rfl, rfl⟩
    rw [show sz (W z) = S z.natAbs from HZ.out]
    go_wp2_with fail
    refine (Div_any z.natAbs g _ hz hg hg0).mono ?_
    rintro e w1 ⟨rfl, h1⟩
    have H1 : Hid _ := h1
    clear h1
    generalize S (z.natAbs / g) = Y at *
    go_wp2_with fail
    refine (below_any (W z) _ hs).mono ?_
    rintro e w2 ⟨rfl, rfl⟩
    rw [show mn (W z) = false by rw [HM.out, decide_eq_false HN.out]]
    go_wp2
    go_ret
    exact ⟨by rw [HW.out]; rfl, H1.out⟩

theorem S1 : S 1 = ⟨#[49]⟩ := by decide
theorem S0 : S 0 = ⟨#[48]⟩ := by decide
theorem is1 {n : Nat} (h : n ≠ 1) : ((S n).toList == [49]) = false := by
  have := eqS h; rw [S1, toList_data ⟨#[49]⟩] at this; exact this

set_option maxHeartbeats 1000000 in
theorem text_one (X : ByteArray) (w : World) (h1 : X.size ≤ 20000) :
    Calls Tryz.prog 56 #[.agg #[.string X, .string ⟨#[49]⟩]] w fun e w' => e = .returned (.string X) ∧ w' = w.alloc (.cells #[.string X, .string ⟨#[49]⟩] 52) := by
  go_enter Tryz.func56, Tryz.ntmps56
  go_wp2
  go_ret
  exact ⟨rfl, rfl⟩
set_option maxHeartbeats 1000000 in
theorem text_more (X Y : ByteArray) (w : World) (h1 : X.size ≤ 20000) (h2 : Y.size ≤ 20000) (hq : (Y.toList == [49]) = false) :
    Calls Tryz.prog 56 #[.agg #[.string X, .string Y]] w fun e w' => e = .returned (.string (X ++ ⟨#[47]⟩ ++ Y)) ∧ w' = w.alloc (.cells #[.string X, .string Y] 52) := by
  go_enter Tryz.func56, Tryz.ntmps56
  go_wp2
  go_ret
  exact ⟨rfl, rfl⟩
theorem text_R (r : Rat) (w : World) (hr : Bd r 10000) :
    Calls Tryz.prog 56 #[fr r] w fun e w' => e = .returned (.string (R r)) ∧ w' = w.alloc (.cells #[.string (W r.num), .string (S r.den)] 52) := by
  have h1 : (W r.num).size ≤ 20000 := by have := W_size r.num; have := hr.1; omega
  have h2 : (S r.den).size ≤ 20000 := by rw [S_size]; have := hr.2; omega
  by_cases h : r.den = 1
  · have k := text_one (W r.num) w h1
    show Calls Tryz.prog 56 #[.agg #[.string (W r.num), .string (S r.den)]] w fun e w' => e = .returned (.string (R r)) ∧ w' = w.alloc (.cells #[.string (W r.num), .string (S r.den)] 52)
    rw [R_one h, h, S1]; exact k
  · have k := text_more (W r.num) (S r.den) w h1 h2 (is1 h)
    show Calls Tryz.prog 56 #[.agg #[.string (W r.num), .string (S r.den)]] w fun e w' => e = .returned (.string (R r)) ∧ w' = w.alloc (.cells #[.string (W r.num), .string (S r.den)] 52)
    rw [show R r = W r.num ++ ⟨#[47]⟩ ++ S r.den by unfold R; rw [if_neg h]]; exact k

/-- what two new blocks hold behind a call that leaves them -/
theorem own2 {w v : World} {a b : Array Value} {r s : TypeId} (h : Below ((w.alloc (.cells a r)).alloc (.cells b s)).heap.size ((w.alloc (.cells a r)).alloc (.cells b s)) v) :
    (∀ i, v.cell? ⟨w.heap.size, i, none⟩ = a[i]?) ∧ (∀ i, v.cell? ⟨w.heap.size + 1, i, none⟩ = b[i]?) ∧ (∀ i, v.frozen? ⟨w.heap.size, i, none⟩ = false) ∧ (∀ i, v.frozen? ⟨w.heap.size + 1, i, none⟩ = false) ∧ Below w.heap.size w v := by
  have hs : ((w.alloc (.cells a r)).alloc (.cells b s)).heap.size = w.heap.size + 1 + 1 := by simp
  rw [hs] at h
  have e1 : ((w.alloc (.cells a r)).alloc (.cells b s)).heap[w.heap.size]? = some (.cells a r) := by
    rw [Below.heap_alloc _ _ _ (by simp)]; exact heap_alloc_new w _
  have e2 : ((w.alloc (.cells a r)).alloc (.cells b s)).heap[w.heap.size + 1]? = some (.cells b s) := by
    have := heap_alloc_new (w.alloc (.cells a r)) (.cells b s); simpa using this
  have f1 : v.heap[w.heap.size]? = some (.cells a r) := by rw [h.block _ (by omega)]; exact e1
  have f2 : v.heap[w.heap.size + 1]? = some (.cells b s) := by rw [h.block _ (by omega)]; exact e2
  refine ⟨fun i => ?_, fun i => ?_, fun i => ?_, fun i => ?_, bl_trans (bl_alloc (bl_alloc (Below.refl _ w) _) _) (by rw [hs]; exact h)⟩
  · simp [World.cell?, f1]
  · simp [World.cell?, f2]
  · simp [World.frozen?, f1]
  · simp [World.frozen?, f2]
theorem own3 {w v : World} {a b c : Array Value} {r s t : TypeId} (h : Below (((w.alloc (.cells a r)).alloc (.cells b s)).alloc (.cells c t)).heap.size (((w.alloc (.cells a r)).alloc (.cells b s)).alloc (.cells c t)) v) :
    (∀ i, v.cell? ⟨w.heap.size, i, none⟩ = a[i]?) ∧ (∀ i, v.cell? ⟨w.heap.size + 1, i, none⟩ = b[i]?) ∧ (∀ i, v.cell? ⟨w.heap.size + 1 + 1, i, none⟩ = c[i]?) ∧ (∀ i, v.frozen? ⟨w.heap.size + 1 + 1, i, none⟩ = false) ∧ Below w.heap.size w v := by
  have K := own2 (w := w.alloc (.cells a r)) h
  have hs : (((w.alloc (.cells a r)).alloc (.cells b s)).alloc (.cells c t)).heap.size = w.heap.size + 1 + 1 + 1 := by simp
  have e1 : v.heap[w.heap.size]? = some (.cells a r) := by
    rw [h.block _ (by rw [hs]; omega), Below.heap_alloc _ _ _ (by simp; omega), Below.heap_alloc _ _ _ (by simp)]; exact heap_alloc_new w _
  refine ⟨fun i => by simp [World.cell?, e1], fun i => ?_, fun i => ?_, fun i => ?_, bl_trans (bl_alloc (Below.refl _ w) _) K.2.2.2.2⟩
  · have := K.1 i; simpa using this
  · have := K.2.1 i; simpa using this
  · have := K.2.2.2.1 i; simpa using this

set_option maxHeartbeats 1000000 in
theorem negated_raw (z : Int) (Y : ByteArray) (w : World) (hz : tl z.natAbs ≤ 5000) :
    Calls Tryz.prog 55 #[.agg #[.string (W z), .string Y]] w fun e w' => e = .returned (.agg #[.string (W (-z)), .string Y]) ∧ Below w.heap.size w w' := by
  go_enter Tryz.func55, Tryz.ntmps55
  go_wp2_with fail
  refine (Negw_W z _ hz).mono ?_
  rintro e w1 ⟨rfl, h1⟩
  have K := own2 h1
  have c0 := K.1 0
  have c1 := K.1 1
  have c2 := K.2.1 0
  have c3 := K.2.1 1
  have c4 := K.2.2.2.1 0
  have c5 := K.2.2.2.1 1
  have HB : Hid _ := K.2.2.2.2
  clear K h1
  simp at c0 c1 c2 c3
  go_wp2
  refine bodyPost_ret (v := .agg #[.string (W (-z)), .string Y]) (by simp [results, Tryz.results55, go_sem, c2, c3]) rfl ⟨rfl, ?_⟩
  exact (HB.out.setCell (by simp) _).setCell (by simp) _
theorem negated_R (r : Rat) (w : World) (hr : Bd r 5000) :
    Calls Tryz.prog 55 #[fr r] w fun e w' => e = .returned (fr (-r)) ∧ Below w.heap.size w w' := by
  have := negated_raw r.num (S r.den) w hr.1
  show Calls Tryz.prog 55 #[.agg #[.string (W r.num), .string (S r.den)]] w fun e w' => e = .returned (.agg #[.string (W (-r).num), .string (S (-r).den)]) ∧ Below w.heap.size w w'
  rw [Rat.neg_num r, Rat.neg_den r]; exact this
end Go.Proofs.YtpmnfgbbkmodpaaGreatDoor
