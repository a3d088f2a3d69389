/-
  WHAT HAS A KINK, IN RATIONALS AND IN LISTS OF THEM: the part above 0, the size, the step, the sign, the greater one, what is not less; their laws, number by number. No conditions but the lists' lengths.
-/
import Derived.Test.YtjkobbpebnkimaaGreatDoorTq
namespace Go.Proofs.YtjkobbpebnkimaaGreatDoor.Tn
set_option maxRecDepth 100000
open Go.RowKit Nm
set_option linter.unusedVariables false

def kRelu (q : Rat) : Rat := if 0 < q then q else 0
def kAbs (q : Rat) : Rat := if q < 0 then -q else q
def kStep (q : Rat) : Rat := if 0 < q then 1 else 0
def kSign (q : Rat) : Rat := if 0 < q then 1 else if q < 0 then -1 else 0
def kMax (x y : Rat) : Rat := if x < y then y else x
def kAbove (x y : Rat) : Rat := if x < y then 0 else 1
theorem relu_step (q : Rat) : kRelu q = kStep q * q := by unfold kRelu kStep; grind
theorem abs_sign (q : Rat) : kAbs q = kSign q * q := by unfold kAbs kSign; grind
theorem max_above (x y : Rat) : kMax x y = kAbove x y * x + (1 - kAbove x y) * y := by unfold kMax kAbove; grind
theorem max_turn (x y : Rat) : kMax x y = kMax y x := by unfold kMax; grind
theorem relu_neg (q : Rat) : kRelu q + kRelu (q * -1) = kAbs q := by unfold kRelu kAbs; grind
theorem max_zero (q : Rat) : kMax q 0 = kRelu q := by unfold kMax kRelu; grind
theorem relu_relu (q : Rat) : kRelu (kRelu q) = kRelu q := by unfold kRelu; grind
theorem step_sign (q : Rat) : kStep q = kStep (kSign q) := by unfold kStep kSign; grind
def kOne (q : Rat) : Rat := if q = 0 then 0 else 1
theorem sign_sq (q : Rat) : kSign q * kSign q = kOne q := by unfold kSign kOne; grind
theorem above_max1 (x y : Rat) : kAbove (kMax x y) x = 1 := by unfold kAbove kMax; grind
theorem above_max2 (x y : Rat) : kAbove (kMax x y) y = 1 := by unfold kAbove kMax; grind
theorem above_self (x : Rat) : kAbove x x = 1 := by unfold kAbove; grind
theorem abs_zero (x : Rat) : kAbs x = 0 ↔ x = 0 := by unfold kAbs; grind
theorem one_zero (x : Rat) : kOne x = 0 ↔ x = 0 := by unfold kOne; grind
theorem abs_ge (x : Rat) : 0 ≤ kAbs x := by unfold kAbs; grind
theorem times_gt (q k : Rat) (h : 0 < k) : 0 < q * k ↔ 0 < q := by
  constructor
  · intro c
    apply Classical.byContradiction
    intro n
    have := Rat.mul_le_mul_of_nonneg_right (Rat.not_lt.1 n) (Rat.le_of_lt h)
    grind
  · intro c
    exact Rat.mul_pos c h
theorem times_lt (q k : Rat) (h : 0 < k) : q * k < 0 ↔ q < 0 := by
  have := times_gt (-q) k h
  grind
theorem relu_scale (q k : Rat) (h : 0 ≤ k) : kRelu (q * k) = kRelu q * k := by
  unfold kRelu
  by_cases c : k = 0
  · subst c; grind
  · have := times_gt q k (by grind)
    grind
theorem abs_scale (q k : Rat) (h : 0 ≤ k) : kAbs (q * k) = kAbs q * k := by
  unfold kAbs
  by_cases c : k = 0
  · subst c; grind
  · have := times_lt q k (by grind)
    grind
theorem num_gt (q : Rat) : 0 < q ↔ 0 < q.num := by rw [Rat.lt_iff]; simp
theorem num_lt (q : Rat) : q < 0 ↔ q.num < 0 := by rw [Rat.lt_iff]; simp

/-! in lists -/
theorem zip_map1 (F : Rat → Rat → Rat) (G : Rat → Rat) (l : List Rat) : List.zipWith F (l.map G) l = l.map (fun q => F (G q) q) := by
  induction l with
  | nil => rfl
  | cons a l ih => simp only [List.map_cons, List.zipWith_cons_cons, ih]
theorem zip_map2 (F : Rat → Rat → Rat) (G H : Rat → Rat) (l : List Rat) : List.zipWith F (l.map G) (l.map H) = l.map (fun q => F (G q) (H q)) := by
  induction l with
  | nil => rfl
  | cons a l ih => simp only [List.map_cons, List.zipWith_cons_cons, ih]
theorem zip_same (F : Rat → Rat → Rat) (l : List Rat) : List.zipWith F l l = l.map (fun q => F q q) := by
  induction l with
  | nil => rfl
  | cons a l ih => simp only [List.map_cons, List.zipWith_cons_cons, ih]
theorem zip_rep (F : Rat → Rat → Rat) (l : List Rat) (x : Rat) : List.zipWith F l (List.replicate l.length x) = l.map (fun q => F q x) := by
  induction l with
  | nil => rfl
  | cons a l ih => simp only [List.map_cons, List.length_cons, List.replicate_succ, List.zipWith_cons_cons, ih]
theorem map_const (l : List Rat) (x : Rat) : l.map (fun _ => x) = List.replicate l.length x := by
  induction l with
  | nil => rfl
  | cons a l ih => simp only [List.map_cons, List.length_cons, List.replicate_succ, ih]
theorem lrelu (l : List Rat) : l.map kRelu = List.zipWith (· * ·) (l.map kStep) l := by
  rw [zip_map1]; exact List.map_congr_left fun q _ => relu_step q
theorem labs (l : List Rat) : l.map kAbs = List.zipWith (· * ·) (l.map kSign) l := by
  rw [zip_map1]; exact List.map_congr_left fun q _ => abs_sign q
theorem lmax (l m : List Rat) (n : Nat) (h : l.length = n) (k : m.length = n) : List.zipWith kMax l m =
    List.zipWith (· + ·) (List.zipWith (· * ·) (List.zipWith kAbove l m) l) (List.zipWith (· * ·) (List.zipWith (· - ·) (List.replicate n 1) (List.zipWith kAbove l m)) m) := by
  subst h
  induction l generalizing m with
  | nil => simp
  | cons a l ih => cases m with
    | nil => simp at k
    | cons b m =>
      simp only [List.length_cons, List.replicate_succ, List.zipWith_cons_cons]
      rw [ih m (by simpa using k), max_above a b]
theorem lturn (l m : List Rat) : List.zipWith kMax l m = List.zipWith kMax m l := by
  induction l generalizing m with
  | nil => cases m <;> simp
  | cons a l ih => cases m with
    | nil => simp
    | cons b m => simp only [List.zipWith_cons_cons, ih m, max_turn a b]
theorem lneg (l : List Rat) : List.zipWith (· + ·) (l.map kRelu) ((l.map (· * (-1))).map kRelu) = l.map kAbs := by
  rw [List.map_map, zip_map2]; exact List.map_congr_left fun q _ => relu_neg q
theorem lzero (l : List Rat) (n : Nat) (h : l.length = n) : List.zipWith kMax l (List.replicate n 0) = l.map kRelu := by
  subst h
  rw [zip_rep]; exact List.map_congr_left fun q _ => max_zero q
theorem ltwice (l : List Rat) : (l.map kRelu).map kRelu = l.map kRelu := by
  rw [List.map_map]; exact List.map_congr_left fun q _ => relu_relu q
theorem lstep (l : List Rat) : l.map kStep = (l.map kSign).map kStep := by
  rw [List.map_map]; exact List.map_congr_left fun q _ => step_sign q
theorem lsq (l : List Rat) : List.zipWith (· * ·) (l.map kSign) (l.map kSign) = l.map kOne := by
  rw [zip_map2]; exact List.map_congr_left fun q _ => sign_sq q
theorem labove1 (l m : List Rat) (n : Nat) (h : l.length = n) (k : m.length = n) : List.zipWith kAbove (List.zipWith kMax l m) l = List.replicate n 1 := by
  subst h
  induction l generalizing m with
  | nil => simp
  | cons a l ih => cases m with
    | nil => simp at k
    | cons b m => simp only [List.length_cons, List.replicate_succ, List.zipWith_cons_cons, above_max1, ih m (by simpa using k)]
theorem labove2 (l m : List Rat) (n : Nat) (h : l.length = n) (k : m.length = n) : List.zipWith kAbove (List.zipWith kMax l m) m = List.replicate n 1 := by
  subst h
  induction l generalizing m with
  | nil => simp
  | cons a l ih => cases m with
    | nil => simp at k
    | cons b m => simp only [List.length_cons, List.replicate_succ, List.zipWith_cons_cons, above_max2, ih m (by simpa using k)]
theorem labove3 (l : List Rat) (n : Nat) (h : l.length = n) : List.zipWith kAbove l l = List.replicate n 1 := by
  subst h
  rw [zip_same, ← map_const]; exact List.map_congr_left fun q _ => above_self q
theorem lrscale (l : List Rat) (k : Rat) (h : 0 ≤ k) : (l.map (· * k)).map kRelu = (l.map kRelu).map (· * k) := by
  rw [List.map_map, List.map_map]; exact List.map_congr_left fun q _ => relu_scale q k h
theorem lascale (l : List Rat) (k : Rat) (h : 0 ≤ k) : (l.map (· * k)).map kAbs = (l.map kAbs).map (· * k) := by
  rw [List.map_map, List.map_map]; exact List.map_congr_left fun q _ => abs_scale q k h
/-- is one 0? -/
def zero (l : List Rat) : Bool := l.any fun q => decide (q = 0)
/-- are all? -/
def zeros (l : List Rat) : Bool := l.all fun q => decide (q = 0)
theorem zero_abs (l : List Rat) : zero (l.map kAbs) = zero l := by
  induction l with
  | nil => rfl
  | cons a l ih => simp only [zero, List.map_cons, List.any_cons, abs_zero] at *; rw [ih]
theorem zero_one (l : List Rat) : zero (l.map kOne) = zero l := by
  induction l with
  | nil => rfl
  | cons a l ih => simp only [zero, List.map_cons, List.any_cons, one_zero] at *; rw [ih]
theorem tot_ge {l : List Rat} (h : ∀ q, q ∈ l → 0 ≤ q) : 0 ≤ tot l := by
  induction l with
  | nil => rw [tot_nil]; exact Rat.le_refl
  | cons a l ih =>
    rw [tot_cons]
    have := h a List.mem_cons_self
    have := ih fun q hq => h q (List.mem_cons_of_mem _ hq)
    grind
theorem tot_abs (l : List Rat) : tot (l.map kAbs) = 0 ↔ zeros l = true := by
  induction l with
  | nil => simp [zeros, tot_nil]
  | cons a l ih =>
    rw [List.map_cons, tot_cons]
    have h1 := abs_ge a
    have h2 : 0 ≤ tot (l.map kAbs) := tot_ge fun q hq => by obtain ⟨r, _, rfl⟩ := List.mem_map.1 hq; exact abs_ge r
    have h3 := abs_zero a
    have h4 : zeros (a :: l) = (decide (a = 0) && zeros l) := rfl
    rw [h4, Bool.and_eq_true, decide_eq_true_eq, ← ih, ← h3]
    grind
/-- how many are not 0 -/
def many (l : List Rat) : Nat := l.countP fun q => !decide (q = 0)
theorem tot_one_many (l : List Rat) : tot (l.map kOne) = ((many l : Nat) : Rat) := by
  induction l with
  | nil => rfl
  | cons a l ih =>
    rw [List.map_cons, tot_cons, ih]
    unfold many kOne
    by_cases h : a = 0
    · simp [h]; grind
    · simp [h]; grind
theorem many_le (l : List Rat) : many l ≤ l.length := List.countP_le_length
theorem zeros_zero {l : List Rat} (h : zeros l = true) (h0 : 0 < l.length) : zero l = true := by
  cases l with
  | nil => simp at h0
  | cons a l => simp [zeros] at h; simp [zero, h.1]

/-! how long they are -/
theorem bd_ge {q : Rat} {k : Nat} (h : Bd q k) : 1 ≤ k := by have := tl_pos q.num.natAbs; have := h.1; omega
theorem bd0 {k : Nat} (h : 1 ≤ k) : Bd (0 : Rat) k := Bd.zero.mono h
theorem bd1 {k : Nat} (h : 1 ≤ k) : Bd (1 : Rat) k := Bd.mono (n := 1) ⟨tl_le (by decide) (by omega), tl_le (by decide) (by omega)⟩ h
theorem bdm {k : Nat} (h : 1 ≤ k) : Bd (-1 : Rat) k := Bd.mono (n := 1) ⟨tl_le (by decide) (by omega), tl_le (by decide) (by omega)⟩ h
theorem bd_relu {q : Rat} {k : Nat} (h : Bd q k) : Bd (kRelu q) k := by unfold kRelu; split; exact h; exact bd0 (bd_ge h)
theorem bd_abs {q : Rat} {k : Nat} (h : Bd q k) : Bd (kAbs q) k := by unfold kAbs; split; exact h.neg; exact h
theorem bd_step {q : Rat} {k : Nat} (h : Bd q k) : Bd (kStep q) k := by unfold kStep; split; exact bd1 (bd_ge h); exact bd0 (bd_ge h)
theorem bd_sign {q : Rat} {k : Nat} (h : Bd q k) : Bd (kSign q) k := by
  unfold kSign
  split
  · exact bd1 (bd_ge h)
  · split
    · exact bdm (bd_ge h)
    · exact bd0 (bd_ge h)
theorem bd_max {q r : Rat} {k : Nat} (h : Bd q k) (g : Bd r k) : Bd (kMax q r) k := by unfold kMax; split; exact g; exact h
theorem bd_above {q r : Rat} {k : Nat} (h : Bd q k) : Bd (kAbove q r) k := by unfold kAbove; split; exact bd0 (bd_ge h); exact bd1 (bd_ge h)

/-! signs, and which is less -/
theorem sign_lt {q : Rat} (h : q < 0) : q.num.sign = -1 := Int.sign_eq_neg_one_of_neg ((num_lt q).1 h)
theorem sign_gt {q : Rat} (h : 0 < q) : q.num.sign = 1 := Int.sign_eq_one_of_pos ((num_gt q).1 h)
theorem sign_eq {q : Rat} (h : q = 0) : q.num.sign = 0 := by subst h; rfl
theorem rat_cases (q : Rat) : q < 0 ∨ q = 0 ∨ 0 < q := by grind
theorem sgr_cases (a b : Rat) : (a < b ∧ sgr a b = -1) ∨ (¬ a < b ∧ 0 ≤ sgr a b) := by
  by_cases h : a < b
  · exact Or.inl ⟨h, sgr_lt h⟩
  · refine Or.inr ⟨h, ?_⟩
    by_cases g : b < a
    · rw [sgr_gt g]; omega
    · have : a = b := by grind
      subst this; rw [sgr_eq]; omega
theorem R_zero_iff (q : Rat) : R q = ⟨#[48]⟩ ↔ q = 0 := by
  have e : (⟨#[48]⟩ : ByteArray) = R 0 := by decide +kernel
  rw [e]
  exact ⟨R_inj, fun h => by rw [h]⟩
end Go.Proofs.YtjkobbpebnkimaaGreatDoor.Tn
