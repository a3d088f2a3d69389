/-
  PLAIN FACTS ON DIGITS, from the right: nothing of the program is named here. No conditions.
-/
import Derived.Test.YtpmnfgbbkmodpaaGreatDoorNm
namespace Go.Proofs.YtpmnfgbbkmodpaaGreatDoor.Nm
set_option maxRecDepth 100000

/-- the value of n digits, the lowest first -/
def dl (f : Nat → Nat) : Nat → Nat
  | 0 => 0
  | n + 1 => dl f n + f n * 10 ^ n

theorem dl_zero (f : Nat → Nat) : dl f 0 = 0 := rfl
theorem dl_succ (f : Nat → Nat) (n : Nat) : dl f (n + 1) = dl f n + f n * 10 ^ n := rfl

theorem dl_congr {f g : Nat → Nat} {n : Nat} (h : ∀ i, i < n → f i = g i) : dl f n = dl g n := by
  induction n with
  | zero => rfl
  | succ n ih => simp only [dl]; rw [ih (fun i hi => h i (by omega)), h n (by omega)]

theorem dl_up {f : Nat → Nat} {n j v : Nat} (h : n ≤ j) : dl (up f j v) n = dl f n :=
  dl_congr fun _ hi => up_other f v (by omega)

theorem dl_cut {f : Nat → Nat} {n m : Nat} (hm : m ≤ n) (h : ∀ i, m ≤ i → i < n → f i = 0) : dl f n = dl f m := by
  induction n with
  | zero => have : m = 0 := by omega
            subst this; rfl
  | succ n ih =>
    by_cases e : m = n + 1
    · subst e; rfl
    · rw [dl_succ, h n (by omega) (by omega), ih (by omega) (fun i a b => h i a (by omega))]; omega

theorem dl_lt {f : Nat → Nat} {n : Nat} (h : ∀ i, i < n → f i < 10) : dl f n < 10 ^ n := by
  induction n with
  | zero => simp [dl]
  | succ n ih =>
    have h1 := ih (fun i hi => h i (by omega))
    have h3 : f n * 10 ^ n ≤ 9 * 10 ^ n := Nat.mul_le_mul_right _ (by have := h n (by omega); omega)
    rw [dl_succ, Nat.pow_succ]; omega

/-- the i-th digit of a text from the right, 0 beyond -/
def dg (l : List UInt8) (i : Nat) : Nat := if i < l.length then (l.getD (l.length - 1 - i) 0).toNat - 48 else 0

theorem dg_lt {l : List UInt8} (h : Dg l) (i : Nat) : dg l i < 10 := by
  unfold dg
  split
  · rename_i c
    have h2 : l.length - 1 - i < l.length := by omega
    have e : l.getD (l.length - 1 - i) 0 = l[l.length - 1 - i] := by simp [List.getD, h2]
    have : l.getD (l.length - 1 - i) 0 ∈ l := by
      rw [e]; exact List.getElem_mem _
    have := h _ this
    omega
  · omega

theorem dl_dg (l : List UInt8) : ∀ n, l.length ≤ n → dl (dg l) n = dv l := by
  have key : ∀ l : List UInt8, dl (dg l) l.length = dv l := by
    intro l
    induction l with
    | nil => rfl
    | cons c l ih =>
      rw [List.length_cons, dl_succ, dv_cons]
      have e1 : dl (dg (c :: l)) l.length = dl (dg l) l.length := dl_congr fun i hi => by
        unfold dg
        rw [List.length_cons, if_pos (by omega), if_pos hi, show l.length + 1 - 1 - i = (l.length - 1 - i) + 1 by omega, List.getD_cons_succ]
      have e2 : dg (c :: l) l.length = c.toNat - 48 := by
        unfold dg
        rw [List.length_cons, if_pos (by omega), show l.length + 1 - 1 - l.length = 0 by omega, List.getD_cons_zero]
      rw [e1, e2, ih]; omega
  intro n hn
  rw [dl_cut hn (fun i a b => by unfold dg; rw [if_neg (by omega)])]
  exact key l

/-- digits, the highest first, as a text -/
def rv (f : Nat → Nat) (n : Nat) : List UInt8 := (List.range n).map fun i => UInt8.ofNat (48 + f (n - 1 - i))

theorem rv_dg {f : Nat → Nat} {n : Nat} (h : ∀ i, i < n → f i < 10) : Dg (rv f n) := by
  intro c hc
  unfold rv at hc
  obtain ⟨i, hi, rfl⟩ := List.mem_map.1 hc
  have := h (n - 1 - i) (by simp at hi; omega)
  rw [toNat_dig this]; omega

theorem rv_succ (f : Nat → Nat) (n : Nat) : rv f (n + 1) = UInt8.ofNat (48 + f n) :: rv f n := by
  unfold rv
  rw [List.range_succ_eq_map, List.map_cons, List.map_map]
  congr 1
  apply List.map_congr_left
  intro i _
  simp only [Function.comp]
  congr 3
  omega

theorem rv_len (f : Nat → Nat) (n : Nat) : (rv f n).length = n := by simp [rv]

theorem dv_rv {f : Nat → Nat} {n : Nat} (h : ∀ i, i < n → f i < 10) : dv (rv f n) = dl f n := by
  induction n with
  | zero => rfl
  | succ n ih =>
    rw [rv_succ, dv_cons, rv_len, toNat_dig (h n (by omega)), ih (fun i hi => h i (by omega)), dl_succ, Nat.add_sub_cancel_left]
    omega

/-- a step of a sum, of a digit and a carry -/
theorem carry10 (x t P : Nat) : x + t % 10 * P + t / 10 * (P * 10) = x + t * P := by
  have h := Nat.div_add_mod t 10
  have : t * P = (10 * (t / 10) + t % 10) * P := by rw [h]
  rw [this, Nat.add_mul, Nat.mul_comm P 10, ← Nat.mul_assoc, Nat.mul_comm (t / 10) 10]
  omega

structure Add10 (o f g : Nat → Nat) (k c : Nat) : Prop where
  lim : ∀ i, i < k → o i < 10
  car : c ≤ 1
  val : dl o k + c * 10 ^ k = dl f k + dl g k

theorem Add10.step {o f g : Nat → Nat} {k c : Nat} (h : Add10 o f g k c) (hf : f k < 10) (hg : g k < 10) : Add10 (up o k ((c + (f k + g k)) % 10)) f g (k + 1) ((c + (f k + g k)) / 10) := by
  have hc := h.car
  refine ⟨fun i hi => ?_, by omega, ?_⟩
  · by_cases e : i = k
    · subst e; rw [up_same]; omega
    · rw [up_other _ _ e]; exact h.lim i (by omega)
  · rw [dl_succ, dl_succ, dl_succ, up_same, dl_up (Nat.le_refl _), Nat.pow_succ, carry10, Nat.add_mul, Nat.add_mul]
    have := h.val
    omega

structure Sub10 (o f g : Nat → Nat) (k c : Nat) : Prop where
  lim : ∀ i, i < k → o i < 10
  car : c ≤ 1
  val : dl o k + dl g k = dl f k + c * 10 ^ k

theorem Sub10.step {o f g : Nat → Nat} {k c l d : Nat} (h : Sub10 o f g k c) (hl : l < 10) (hd : d ≤ 1) (he : l + g k + c = f k + d * 10) : Sub10 (up o k l) f g (k + 1) d := by
  refine ⟨fun i hi => ?_, hd, ?_⟩
  · by_cases e : i = k
    · subst e; rw [up_same]; exact hl
    · rw [up_other _ _ e]; exact h.lim i (by omega)
  · rw [dl_succ, dl_succ, dl_succ, up_same, dl_up (Nat.le_refl _), Nat.pow_succ]
    have h1 := h.val
    have h2 : (l + g k + c) * 10 ^ k = (f k + d * 10) * 10 ^ k := by rw [he]
    rw [Nat.add_mul, Nat.add_mul, Nat.add_mul, Nat.mul_assoc d, Nat.mul_comm 10 (10 ^ k)] at h2
    omega

def sh10 (p : Nat → Nat) (i : Nat) : Nat → Nat := fun t => p (i + t)

theorem dl_split (p : Nat → Nat) (i m : Nat) : dl p (i + m) = dl p i + 10 ^ i * dl (sh10 p i) m := by
  induction m with
  | zero => simp [dl]
  | succ m ih =>
    rw [show i + (m + 1) = (i + m) + 1 by omega, dl_succ, ih, dl_succ, Nat.mul_add, Nat.pow_add]
    have : p (i + m) * (10 ^ i * 10 ^ m) = 10 ^ i * (sh10 p i m * 10 ^ m) := by
      unfold sh10; rw [Nat.mul_left_comm]
    rw [this]; omega

structure Mul10J (p P g : Nat → Nat) (N i j c x : Nat) : Prop where
  lim : ∀ t, t < N → p t < 10
  out : ∀ t, t < i ∨ i + j ≤ t → p t = P t
  car : c < 10
  val : dl (sh10 p i) j + c * 10 ^ j = dl (sh10 P i) j + x * dl g j

theorem mul9 {x y : Nat} (hx : x < 10) (hy : y < 10) : x * y ≤ 81 := by
  have : x * y ≤ 9 * 9 := Nat.mul_le_mul (by omega) (by omega)
  omega

theorem Mul10J.step {p P g : Nat → Nat} {N i j c x : Nat} (h : Mul10J p P g N i j c x) (hN : i + j < N) (hx : x < 10) (hg : g j < 10) :
    Mul10J (up p (i + j) ((c + (p (i + j) + x * g j)) % 10)) P g N i (j + 1) ((c + (p (i + j) + x * g j)) / 10) x := by
  have hb := mul9 hx hg
  have hl := h.lim (i + j) hN
  have hc := h.car
  refine ⟨fun t ht => ?_, fun t ht => ?_, by omega, ?_⟩
  · by_cases e : t = i + j
    · subst e; rw [up_same]; omega
    · rw [up_other _ _ e]; exact h.lim t ht
  · rw [up_other _ _ (by omega)]; exact h.out t (by omega)
  · have e1 : dl (sh10 (up p (i + j) ((c + (p (i + j) + x * g j)) % 10)) i) j = dl (sh10 p i) j := dl_congr fun t ht => by unfold sh10; rw [up_other _ _ (by omega)]
    have e2 : sh10 (up p (i + j) ((c + (p (i + j) + x * g j)) % 10)) i j = (c + (p (i + j) + x * g j)) % 10 := by unfold sh10; rw [up_same]
    have e3 : sh10 P i j = p (i + j) := by unfold sh10; exact (h.out (i + j) (by omega)).symm
    rw [dl_succ, dl_succ, dl_succ, e1, e2, e3, Nat.pow_succ, carry10, Nat.add_mul, Nat.add_mul, Nat.mul_add, Nat.mul_assoc x]
    have := h.val
    omega

theorem Mul10J.start {P g : Nat → Nat} {N i x : Nat} (hP : ∀ t, t < N → P t < 10) : Mul10J P P g N i 0 0 x :=
  ⟨hP, fun _ _ => rfl, by omega, by simp [dl]⟩

structure Mul10 (p f : Nat → Nat) (N m G i : Nat) : Prop where
  lim : ∀ t, t < N → p t < 10
  out : ∀ t, i + m ≤ t → t < N → p t = 0
  val : dl p (i + m) = dl f i * G

theorem Mul10.step {p P f g : Nat → Nat} {N m i c : Nat} (h : Mul10 P f N m (dl g m) i) (k : Mul10J p P g N i m c (f i)) : Mul10 (up p (i + m) c) f N m (dl g m) (i + 1) := by
  refine ⟨fun t ht => ?_, fun t a b => ?_, ?_⟩
  · by_cases e : t = i + m
    · subst e; rw [up_same]; exact k.car
    · rw [up_other _ _ e]; exact k.lim t ht
  · rw [up_other _ _ (by omega), k.out t (by omega)]; exact h.out t (by omega) b
  · have h1 := h.val
    have h2 := k.val
    rw [show i + 1 + m = (i + m) + 1 by omega, dl_succ, up_same, dl_up (Nat.le_refl _), dl_split, dl_succ, Nat.add_mul, ← h1, dl_split]
    have e1 : dl p i = dl P i := dl_congr fun t ht => k.out t (by omega)
    have e2 : f i * 10 ^ i * dl g m = 10 ^ i * (f i * dl g m) := by rw [Nat.mul_comm (f i), Nat.mul_assoc]
    have e3 : c * 10 ^ (i + m) = 10 ^ i * (c * 10 ^ m) := by rw [Nat.pow_add, Nat.mul_left_comm]
    have e4 : 10 ^ i * dl (sh10 p i) m + 10 ^ i * (c * 10 ^ m) = 10 ^ i * dl (sh10 P i) m + 10 ^ i * (f i * dl g m) := by rw [← Nat.mul_add, ← Nat.mul_add, h2]
    rw [e1, e2, e3]
    omega

theorem dl_none : ∀ n, dl (fun _ => 0) n = 0 := fun n => by
  induction n with
  | zero => rfl
  | succ n ih => rw [dl_succ, ih]; omega

theorem Mul10.start {f : Nat → Nat} {N m G : Nat} : Mul10 (fun _ => 0) f N m G 0 :=
  ⟨fun t _ => by omega, fun t _ _ => rfl, by rw [dl_none]; simp [dl]⟩
end Go.Proofs.YtpmnfgbbkmodpaaGreatDoor.Nm
