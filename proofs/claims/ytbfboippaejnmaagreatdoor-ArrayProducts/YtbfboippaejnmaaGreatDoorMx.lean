/-
  SUMS BY COUNTS, NUMBERS IN ROWS: products, rows as columns, in lists of rationals. Nothing of the program's text is named here. No conditions.
-/
import Derived.Test.YtbfboippaejnmaaGreatDoorTs
namespace Go.Proofs.YtbfboippaejnmaaGreatDoor
section
set_option linter.unusedVariables false

/-- what is asked for by 0, .., n - 1, summed -/
def sig (n : Nat) (f : Nat → Rat) : Rat := tot ((List.range n).map f)
theorem sig_zero (f : Nat → Rat) : sig 0 f = 0 := rfl
theorem sig_succ (n : Nat) (f : Nat → Rat) : sig (n + 1) f = sig n f + f n := by
  unfold sig
  rw [List.range_succ, List.map_append, List.map_singleton, tot_snoc]
theorem sig_congr {n : Nat} {f g : Nat → Rat} (h : ∀ i, i < n → f i = g i) : sig n f = sig n g := by
  induction n with
  | zero => rfl
  | succ n ih => rw [sig_succ, sig_succ, ih fun i hi => h i (by omega), h n (by omega)]
theorem sig_none (n : Nat) : sig n (fun _ => 0) = 0 := by
  induction n with
  | zero => rfl
  | succ n ih => rw [sig_succ, ih]; grind
theorem sig_add (n : Nat) (f g : Nat → Rat) : sig n (fun i => f i + g i) = sig n f + sig n g := by
  induction n with
  | zero => rw [sig_zero, sig_zero, sig_zero]; grind
  | succ n ih => rw [sig_succ, sig_succ, sig_succ, ih]; grind
theorem sig_mul (n : Nat) (f : Nat → Rat) (c : Rat) : sig n (fun i => f i * c) = sig n f * c := by
  induction n with
  | zero => rw [sig_zero, sig_zero]; grind
  | succ n ih => rw [sig_succ, sig_succ, ih]; grind
theorem mul_sig (n : Nat) (f : Nat → Rat) (c : Rat) : sig n (fun i => c * f i) = c * sig n f := by
  rw [Rat.mul_comm, ← sig_mul]; exact sig_congr fun i _ => Rat.mul_comm _ _
theorem sig_swap (m n : Nat) (f : Nat → Nat → Rat) : sig m (fun i => sig n (fun j => f i j)) = sig n (fun j => sig m (fun i => f i j)) := by
  induction m with
  | zero => rw [sig_zero, ← sig_none n]; exact sig_congr fun _ _ => rfl
  | succ m ih => rw [sig_succ, ih, ← sig_add]; exact sig_congr fun j _ => (sig_succ m (fun i => f i j)).symm
theorem sig_one {n k : Nat} (h : k < n) (f : Nat → Rat) (hf : ∀ i, i < n → i ≠ k → f i = 0) : sig n f = f k := by
  induction n with
  | zero => omega
  | succ n ih =>
    rw [sig_succ]
    by_cases e : k = n
    · subst e
      have : sig k f = 0 := by rw [← sig_none k]; exact sig_congr fun i hi => hf i (by omega) (by omega)
      rw [this]; grind
    · rw [ih (by omega) fun i hi hne => hf i (by omega) hne, hf n (by omega) (by omega)]; grind
theorem sig_more (m n : Nat) (f : Nat → Rat) : sig (m + n) f = sig m f + sig n (fun j => f (m + j)) := by
  induction n with
  | zero => rw [Nat.add_zero, sig_zero]; grind
  | succ n ih => rw [← Nat.add_assoc, sig_succ, sig_succ, ih]; grind
theorem sig_grid (p q : Nat) (f : Nat → Rat) : sig (p * q) f = sig p (fun i => sig q (fun j => f (i * q + j))) := by
  induction p with
  | zero => rw [Nat.zero_mul]; rfl
  | succ p ih => rw [Nat.succ_mul, sig_more, ih, sig_succ]
theorem list_grid {A : List Rat} {n : Nat} (h : A.length = n) : (List.range n).map (fun t => A.getD t 0) = A := by
  subst h
  apply List.ext_getElem (by simp)
  intro i h1 h2
  simp [List.getD, h2]
theorem tot_sig {A : List Rat} {n : Nat} (h : A.length = n) : tot A = sig n (fun t => A.getD t 0) := by
  unfold sig; rw [list_grid h]

/-- what is asked for by row and column, row by row -/
def grid {α : Type} (p q : Nat) (F : Nat → Nat → α) : List α := (List.range (p * q)).map fun t => F (t / q) (t % q)
theorem grid_len {α : Type} (p q : Nat) (F : Nat → Nat → α) : (grid p q F).length = p * q := by simp [grid]
theorem in_grid {p q i j : Nat} (hi : i < p) (hj : j < q) : i * q + j < p * q := by
  have : (i + 1) * q ≤ p * q := Nat.mul_le_mul_right q hi
  rw [Nat.succ_mul] at this; omega
theorem row_in {q i j : Nat} (hj : j < q) : (i * q + j) / q = i ∧ (i * q + j) % q = j := by
  refine ⟨?_, ?_⟩
  · rw [Nat.mul_comm, Nat.mul_add_div (by omega), Nat.div_eq_of_lt hj, Nat.add_zero]
  · rw [Nat.mul_comm, Nat.mul_add_mod, Nat.mod_eq_of_lt hj]
theorem grid_at {α : Type} {p q i j : Nat} (F : Nat → Nat → α) (d : α) (hi : i < p) (hj : j < q) : (grid p q F).getD (i * q + j) d = F i j := by
  have h := in_grid hi hj
  have ⟨e1, e2⟩ := row_in (i := i) hj
  simp [grid, List.getD, h, e1, e2]
theorem grid_row {p q t : Nat} (h : t < p * q) : t / q < p ∧ t % q < q ∧ t = t / q * q + t % q := by
  have hq : 0 < q := by rcases Nat.eq_zero_or_pos q with e | e; · subst e; simp at h
                        · exact e
  exact ⟨Nat.div_lt_of_lt_mul (by rw [Nat.mul_comm]; exact h), Nat.mod_lt _ hq, by rw [Nat.mul_comm]; exact (Nat.div_add_mod t q).symm⟩
theorem grid_congr {α : Type} {p q : Nat} {F G : Nat → Nat → α} (h : ∀ i j, i < p → j < q → F i j = G i j) : grid p q F = grid p q G := by
  unfold grid
  apply List.map_congr_left
  intro t ht
  have := grid_row (List.mem_range.1 ht)
  exact h _ _ this.1 this.2.1
theorem grid_map {α β : Type} (p q : Nat) (F : Nat → Nat → α) (f : α → β) : (grid p q F).map f = grid p q fun i j => f (F i j) := by
  unfold grid; rw [List.map_map]; rfl
theorem grid_snoc {α : Type} {q i j : Nat} (F : Nat → Nat → α) (hj : j < q) : (List.range (i * q + j + 1)).map (fun t => F (t / q) (t % q)) = (List.range (i * q + j)).map (fun t => F (t / q) (t % q)) ++ [F i j] := by
  have ⟨e1, e2⟩ := row_in (i := i) hj
  rw [List.range_succ, List.map_append, List.map_singleton, e1, e2]
theorem grid_of {A : List Rat} {p q : Nat} (h : A.length = p * q) : grid p q (fun i j => A.getD (i * q + j) 0) = A := by
  conv => rhs; rw [← list_grid h]
  unfold grid
  apply List.map_congr_left
  intro t ht
  show A.getD (t / q * q + t % q) 0 = A.getD t 0
  rw [← (grid_row (List.mem_range.1 ht)).2.2]
theorem grid_ext {A : List Rat} {p q : Nat} {F : Nat → Nat → Rat} (h : A.length = p * q) (k : ∀ i j, i < p → j < q → F i j = A.getD (i * q + j) 0) : grid p q F = A := by
  rw [grid_congr k, grid_of h]
theorem tot_grid (p q : Nat) (F : Nat → Nat → Rat) : tot (grid p q F) = sig p fun i => sig q fun j => F i j := by
  rw [tot_sig (grid_len p q F), sig_grid]
  exact sig_congr fun i hi => sig_congr fun j hj => grid_at F 0 hi hj

/-- rows by columns: p rows of n, n rows of q -/
def mm (p n q : Nat) (A B : List Rat) : List Rat := grid p q fun i k => sig n fun j => A.getD (i * n + j) 0 * B.getD (j * q + k) 0
/-- rows as columns: p rows of q -/
def tr (p q : Nat) (A : List Rat) : List Rat := grid q p fun r c => A.getD (c * q + r) 0
theorem mm_len (p n q : Nat) (A B : List Rat) : (mm p n q A B).length = p * q := grid_len _ _ _
theorem tr_len (p q : Nat) (A : List Rat) : (tr p q A).length = q * p := grid_len _ _ _
theorem mm_at {p n q i k : Nat} (A B : List Rat) (hi : i < p) (hk : k < q) : (mm p n q A B).getD (i * q + k) 0 = sig n fun j => A.getD (i * n + j) 0 * B.getD (j * q + k) 0 := grid_at _ _ hi hk
theorem tr_at {p q r c : Nat} (A : List Rat) (hr : r < q) (hc : c < p) : (tr p q A).getD (r * p + c) 0 = A.getD (c * q + r) 0 := grid_at _ _ hr hc
theorem tr_mm (p n q : Nat) (A B : List Rat) : tr p q (mm p n q A B) = mm q n p (tr n q B) (tr p n A) := by
  refine grid_congr fun r c hr hc => ?_
  rw [mm_at A B hc hr]
  refine sig_congr fun j hj => ?_
  rw [tr_at B hr hj, tr_at A hj hc, Rat.mul_comm]
theorem tr_tr {p q : Nat} {A : List Rat} (h : A.length = p * q) : tr q p (tr p q A) = A :=
  grid_ext h fun i j hi hj => tr_at A hj hi
theorem tot_tr {p q : Nat} {A : List Rat} (h : A.length = p * q) : tot (tr p q A) = tot A := by
  unfold tr
  rw [tot_grid, sig_swap, tot_sig h, sig_grid]
theorem zip_at {A B : List Rat} {t : Nat} (h1 : t < A.length) (h2 : t < B.length) : (List.zipWith (· + ·) A B).getD t 0 = A.getD t 0 + B.getD t 0 := by
  simp [List.getD, List.getElem?_zipWith, h1, h2]
theorem zip_grid (p q : Nat) (F G : Nat → Nat → Rat) : List.zipWith (· + ·) (grid p q F) (grid p q G) = grid p q fun i j => F i j + G i j := by
  symm
  refine grid_ext (by simp [grid_len]) fun i j hi hj => ?_
  have := in_grid hi hj
  rw [zip_at (by rw [grid_len]; exact this) (by rw [grid_len]; exact this), grid_at F 0 hi hj, grid_at G 0 hi hj]
theorem mm_add {n q : Nat} (p : Nat) (A : List Rat) {B C : List Rat} (hB : B.length = n * q) (hC : C.length = n * q) : mm p n q A (List.zipWith (· + ·) B C) = List.zipWith (· + ·) (mm p n q A B) (mm p n q A C) := by
  unfold mm
  rw [zip_grid]
  refine grid_congr fun i k hi hk => ?_
  rw [← sig_add]
  refine sig_congr fun j hj => ?_
  have := in_grid hj hk
  rw [zip_at (by omega) (by omega)]; grind
theorem mm_assoc (p n q r : Nat) (A B C : List Rat) : mm p q r (mm p n q A B) C = mm p n r A (mm n q r B C) := by
  refine grid_congr fun i k hi hk => ?_
  have e1 : (sig q fun j => (mm p n q A B).getD (i * q + j) 0 * C.getD (j * r + k) 0) = sig q fun j => sig n fun l => A.getD (i * n + l) 0 * B.getD (l * q + j) 0 * C.getD (j * r + k) 0 :=
    sig_congr fun j hj => by rw [mm_at A B hi hj, ← sig_mul]
  have e2 : (sig n fun l => A.getD (i * n + l) 0 * (mm n q r B C).getD (l * r + k) 0) = sig n fun l => sig q fun j => A.getD (i * n + l) 0 * B.getD (l * q + j) 0 * C.getD (j * r + k) 0 :=
    sig_congr fun l hl => by rw [mm_at B C hl hk, ← mul_sig]; exact sig_congr fun j _ => by grind
  rw [e1, e2, sig_swap]
/-- ones on the slope -/
def unit (n : Nat) : List Rat := grid n n fun i k => if i = k then 1 else 0
theorem mm_unit {p n : Nat} {A : List Rat} (h : A.length = p * n) : mm p n n A (unit n) = A := by
  refine grid_ext h fun i k hi hk => ?_
  rw [sig_one hk _ (fun j hj hne => by unfold unit; rw [grid_at _ _ hj hk, if_neg hne]; grind)]
  unfold unit
  rw [grid_at _ _ hk hk, if_pos rfl]; grind
theorem tr_unit (n : Nat) : tr n n (unit n) = unit n := by
  refine grid_congr fun i k hi hk => ?_
  unfold unit
  rw [grid_at _ _ hk hi]
  by_cases e : i = k
  · rw [if_pos e, if_pos e.symm]
  · rw [if_neg e, if_neg (fun c => e c.symm)]
theorem rep_at {n t : Nat} (h : t < n) (x : Rat) : (List.replicate n x).getD t 0 = x := by simp [List.getD, h]
theorem mm_one (p q : Nat) (F : Nat → Nat → Rat) : grid 1 1 F = [F 0 0] := rfl
theorem ones_col {n : Nat} {A : List Rat} (h : A.length = n) : mm 1 n 1 A (List.replicate n 1) = [tot A] := by
  unfold mm
  rw [mm_one 1 1, tot_sig h]
  congr 1
  refine sig_congr fun j hj => ?_
  rw [Nat.zero_mul, Nat.zero_add, Nat.mul_one, Nat.add_zero, rep_at hj]; grind
theorem ones_both {p q : Nat} {A : List Rat} (h : A.length = p * q) : mm 1 q 1 (mm 1 p q (List.replicate p 1) A) (List.replicate q 1) = [tot A] := by
  rw [ones_col (by rw [mm_len, Nat.one_mul])]
  congr 1
  unfold mm
  rw [tot_grid, sig_succ, sig_zero, tot_sig h, sig_grid, sig_swap]
  have : (sig p fun j => sig q fun i => (List.replicate p (1 : Rat)).getD (0 * p + j) 0 * A.getD (j * q + i) 0) = sig p fun i => sig q fun j => A.getD (i * q + j) 0 :=
    sig_congr fun i hi => sig_congr fun k hk => by rw [Nat.zero_mul, Nat.zero_add, rep_at hi]; grind
  rw [this]; grind
theorem Bd.sig {n k : Nat} {f : Nat → Rat} (h : ∀ i, i < n → Bd (f i) k) : Bd (sig n f) (n * (k + 1) + 1) := by
  have := Bd.tot (l := (List.range n).map f) (n := k) (fun r hr => by obtain ⟨i, hi, rfl⟩ := List.mem_map.1 hr; exact h i (List.mem_range.1 hi))
  rw [List.length_map, List.length_range] at this
  exact this
end
end Go.Proofs.YtbfboippaejnmaaGreatDoor
