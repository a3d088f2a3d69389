/-
  NATURAL NUMBERS AS DIGITS AND LIMBS, plain: nothing of the program is named. No conditions.
-/

namespace Go.Proofs.YtadgnafafdfioaaGreatDoor.Nm
section
set_option maxRecDepth 100000

/-- the value of n limbs, the lowest first -/
def lv (f : Nat → Nat) : Nat → Nat
  | 0 => 0
  | n + 1 => lv f n + f n * 1000000000 ^ n

/-- one place turned -/
def up (f : Nat → Nat) (j v : Nat) : Nat → Nat := fun i => if i = j then v else f i

theorem up_same (f : Nat → Nat) (j v : Nat) : up f j v j = v := by simp [up]
theorem up_other (f : Nat → Nat) {j i : Nat} (v : Nat) (h : i ≠ j) : up f j v i = f i := by simp [up, h]

theorem lv_congr {f g : Nat → Nat} {n : Nat} (h : ∀ i, i < n → f i = g i) : lv f n = lv g n := by
  induction n with
  | zero => rfl
  | succ n ih => simp only [lv]; rw [ih (fun i hi => h i (by omega)), h n (by omega)]

theorem lv_up {f : Nat → Nat} {n j v : Nat} (h : n ≤ j) : lv (up f j v) n = lv f n :=
  lv_congr fun _ hi => up_other f v (by omega)

theorem lv_zero (f : Nat → Nat) : lv f 0 = 0 := rfl
theorem lv_succ (f : Nat → Nat) (n : Nat) : lv f (n + 1) = lv f n + f n * 1000000000 ^ n := rfl

theorem pos10 (n : Nat) : 0 < 10 ^ n := Nat.pow_pos (by omega)
theorem posB (n : Nat) : 0 < 1000000000 ^ n := Nat.pow_pos (by omega)

theorem lv_lt {f : Nat → Nat} {n : Nat} (h : ∀ i, i < n → f i < 1000000000) : lv f n < 1000000000 ^ n := by
  induction n with
  | zero => simp [lv]
  | succ n ih =>
    have h1 := ih (fun i hi => h i (by omega))
    have h2 := h n (by omega)
    have h3 : f n * 1000000000 ^ n ≤ 999999999 * 1000000000 ^ n := Nat.mul_le_mul_right _ (by omega)
    rw [lv_succ, Nat.pow_succ]
    omega

theorem lv_hi {f : Nat → Nat} {n : Nat} (h : f n ≠ 0) : 1000000000 ^ n ≤ lv f (n + 1) := by
  rw [lv_succ]
  have : 1 * 1000000000 ^ n ≤ f n * 1000000000 ^ n := Nat.mul_le_mul_right _ (by omega)
  omega

/-- what stands above does not count if it is 0 -/
theorem lv_cut {f : Nat → Nat} {n m : Nat} (hm : m ≤ n) (h : ∀ i, m ≤ i → i < n → f i = 0) : lv f n = lv f m := by
  induction n with
  | zero => have : m = 0 := by omega
            subst this; rfl
  | succ n ih =>
    by_cases e : m = n + 1
    · subst e; rfl
    · rw [lv_succ, h n (by omega) (by omega), ih (by omega) (fun i a b => h i a (by omega))]; omega

/-- the form of limbs -/
def Nrm (f : Nat → Nat) (n : Nat) : Prop := (∀ i, i < n → f i < 1000000000) ∧ (n = 0 ∨ f (n - 1) ≠ 0)

theorem Nrm.hi {f : Nat → Nat} {n : Nat} (h : Nrm f n) (hn : 0 < n) : 1000000000 ^ (n - 1) ≤ lv f n := by
  obtain ⟨m, rfl⟩ : ∃ m, n = m + 1 := ⟨n - 1, by omega⟩
  rcases h.2 with e | e
  · omega
  · exact lv_hi (by simpa using e)

theorem Nrm.lt {f : Nat → Nat} {n : Nat} (h : Nrm f n) : lv f n < 1000000000 ^ n := lv_lt h.1

theorem Nrm.len_le {f g : Nat → Nat} {n m : Nat} (h : Nrm f n) (k : Nrm g m) (e : lv f n ≤ lv g m) : n ≤ m := by
  rcases Nat.lt_or_ge m n with c | c
  · exfalso
    have h1 := h.hi (by omega)
    have h2 := k.lt
    have h3 : 1000000000 ^ m ≤ 1000000000 ^ (n - 1) := Nat.pow_le_pow_right (by omega) (by omega)
    omega
  · exact c

theorem Nrm.zero_iff {f : Nat → Nat} {n : Nat} (h : Nrm f n) : lv f n = 0 ↔ n = 0 := by
  constructor
  · intro e
    rcases Nat.eq_zero_or_pos n with c | c
    · exact c
    · have := h.hi c; have := posB (n - 1); omega
  · rintro rfl; rfl

/-! decimal texts -/
def dv (l : List UInt8) : Nat := l.foldl (fun n c => n * 10 + (c.toNat - 48)) 0

theorem dv_nil : dv [] = 0 := rfl
theorem dv_snoc (l : List UInt8) (c : UInt8) : dv (l ++ [c]) = dv l * 10 + (c.toNat - 48) := by simp [dv]

theorem dv_append (l m : List UInt8) : dv (l ++ m) = dv l * 10 ^ m.length + dv m := by
  have key : ∀ (m : List UInt8) (a : Nat), m.foldl (fun n c => n * 10 + (c.toNat - 48)) a = a * 10 ^ m.length + m.foldl (fun n c => n * 10 + (c.toNat - 48)) 0 := by
    intro m
    induction m with
    | nil => intro a; simp
    | cons c m ih =>
      intro a
      simp only [List.foldl_cons, List.length_cons]
      rw [ih, ih (0 * 10 + (c.toNat - 48)), Nat.pow_succ, Nat.add_mul, Nat.zero_mul, Nat.zero_add, Nat.mul_assoc, Nat.mul_comm 10 (10 ^ m.length)]
      omega
  unfold dv
  rw [List.foldl_append, key]

theorem dv_cons (c : UInt8) (l : List UInt8) : dv (c :: l) = (c.toNat - 48) * 10 ^ l.length + dv l := by
  have := dv_append [c] l
  have e : dv [c] = c.toNat - 48 := by simp [dv]
  rw [e] at this
  simpa using this

def Dg (l : List UInt8) : Prop := ∀ c, c ∈ l → 48 ≤ c.toNat ∧ c.toNat ≤ 57

theorem dv_lt {l : List UInt8} (h : Dg l) : dv l < 10 ^ l.length := by
  induction l with
  | nil => simp [dv]
  | cons c l ih =>
    have h1 := ih (fun d hd => h d (by simp [hd]))
    have h2 := h c (by simp)
    have h3 : (c.toNat - 48) * 10 ^ l.length ≤ 9 * 10 ^ l.length := Nat.mul_le_mul_right _ (by omega)
    rw [dv_cons, List.length_cons, Nat.pow_succ]
    omega

theorem dv_ge {c : UInt8} {l : List UInt8} (h : 48 < c.toNat) : 10 ^ l.length ≤ dv (c :: l) := by
  rw [dv_cons]
  have : 1 * 10 ^ l.length ≤ (c.toNat - 48) * 10 ^ l.length := Nat.mul_le_mul_right _ (by omega)
  omega

theorem dv_inj : ∀ {l m : List UInt8}, Dg l → Dg m → l.length = m.length → dv l = dv m → l = m := by
  intro l
  induction l with
  | nil => intro m _ _ hl _; exact (List.length_eq_zero_iff.1 (by simpa using hl.symm)).symm
  | cons c l ih =>
    intro m hc hm hl he
    match m, hl with
    | d :: m, hl =>
      have hl' : l.length = m.length := by simpa using hl
      have a1 := dv_lt (l := l) (fun d hd => hc d (by simp [hd]))
      have a2 := dv_lt (l := m) (fun d hd => hm d (by simp [hd]))
      have b1 := hc c (by simp)
      have b2 := hm d (by simp)
      rw [dv_cons, dv_cons, hl'] at he
      rw [hl'] at a1
      have hp := pos10 m.length
      have e1 : c.toNat - 48 = d.toNat - 48 := by
        have x1 : ((c.toNat - 48) * 10 ^ m.length + dv l) / 10 ^ m.length = c.toNat - 48 := by
          rw [Nat.mul_comm, Nat.mul_add_div hp, Nat.div_eq_of_lt a1]; omega
        have x2 : ((d.toNat - 48) * 10 ^ m.length + dv m) / 10 ^ m.length = d.toNat - 48 := by
          rw [Nat.mul_comm, Nat.mul_add_div hp, Nat.div_eq_of_lt a2]; omega
        rw [← x1, he, x2]
      have e2 : dv l = dv m := by rw [e1] at he; omega
      have e3 : c = d := UInt8.toNat_inj.1 (by omega)
      rw [e3, ih (fun d hd => hc d (by simp [hd])) (fun d hd => hm d (by simp [hd])) hl' e2]

/-- is a text a natural? -/
def rt (l : List UInt8) : Bool := l.all (fun c => decide (48 ≤ c.toNat) && decide (c.toNat ≤ 57)) && (decide (l.length = 1) || (decide (1 < l.length) && decide (l.head? ≠ some 48)))

theorem rt_dg {l : List UInt8} (h : rt l = true) : Dg l := by
  intro c hc
  simp only [rt, Bool.and_eq_true, List.all_eq_true, decide_eq_true_eq] at h
  exact h.1 c hc

theorem rt_iff (l : List UInt8) : rt l = true ↔ Dg l ∧ (l.length = 1 ∨ 1 < l.length ∧ l.head? ≠ some 48) := by
  simp only [rt, Dg, Bool.and_eq_true, List.all_eq_true, decide_eq_true_eq, Bool.or_eq_true]

theorem rt_low {l : List UInt8} (h : rt l = true) (h1 : 1 < l.length) : 10 ^ (l.length - 1) ≤ dv l := by
  obtain ⟨hd, hr⟩ := (rt_iff l).1 h
  match l, h1 with
  | c :: l, h1 =>
    rcases hr with e | ⟨_, e⟩
    · simp only [List.length_cons] at e h1; omega
    · have b := hd c (by simp)
      have hne : c.toNat ≠ 48 := fun x => e (by simp; exact UInt8.toNat_inj.1 (by simpa using x))
      have := dv_ge (c := c) (l := l) (by omega)
      simpa using this

theorem rt_pos {l : List UInt8} (h : rt l = true) : 1 ≤ l.length := by
  obtain ⟨_, hr⟩ := (rt_iff l).1 h
  omega

theorem rt_len_le {l m : List UInt8} (h : rt l = true) (k : rt m = true) (e : dv l ≤ dv m) : l.length ≤ m.length := by
  rcases Nat.lt_or_ge m.length l.length with c | c
  · exfalso
    have := rt_pos k
    have h1 := rt_low h (by omega)
    have h2 := dv_lt (rt_dg k)
    have h3 : 10 ^ m.length ≤ 10 ^ (l.length - 1) := Nat.pow_le_pow_right (by omega) (by omega)
    omega
  · exact c

theorem rt_inj {l m : List UInt8} (h : rt l = true) (k : rt m = true) (e : dv l = dv m) : l = m :=
  dv_inj (rt_dg h) (rt_dg k) (Nat.le_antisymm (rt_len_le h k (by omega)) (rt_len_le k h (by omega))) e

/-- a number's text -/
def ds : Nat → Nat → List UInt8
  | 0, _ => []
  | f + 1, n => if n < 10 then [UInt8.ofNat (48 + n)] else ds f (n / 10) ++ [UInt8.ofNat (48 + n % 10)]
def tx (n : Nat) : List UInt8 := ds (n + 1) n

theorem toNat_dig {n : Nat} (h : n < 10) : (UInt8.ofNat (48 + n)).toNat = 48 + n := by
  simp only [UInt8.toNat_ofNat']; omega

theorem ds_spec : ∀ (f n : Nat), n < f → rt (ds f n) = true ∧ dv (ds f n) = n ∧ (0 < n → (ds f n).head? ≠ some 48) := by
  intro f
  induction f with
  | zero => intro n h; omega
  | succ f ih =>
    intro n h
    simp only [ds]
    by_cases c : n < 10
    · rw [if_pos c]
      have t := toNat_dig c
      refine ⟨?_, ?_, ?_⟩
      · rw [rt_iff]; refine ⟨?_, Or.inl rfl⟩
        intro d hd; simp only [List.mem_singleton] at hd; subst hd; rw [t]; omega
      · simp only [dv, List.foldl_cons, List.foldl_nil, t]; omega
      · intro hn e
        simp only [List.head?_cons, Option.some.injEq] at e
        have : (UInt8.ofNat (48 + n)).toNat = 48 := by rw [e]; rfl
        omega
    · rw [if_neg c]
      obtain ⟨r1, r2, r3⟩ := ih (n / 10) (by omega)
      have t := toNat_dig (n := n % 10) (by omega)
      have hd := r3 (by omega)
      have hp := rt_pos r1
      have hh : (ds f (n / 10) ++ [UInt8.ofNat (48 + n % 10)]).head? ≠ some 48 := by
        match hq : ds f (n / 10), hp with
        | a :: as, _ => rw [hq] at hd; simpa using hd
      refine ⟨?_, ?_, fun _ => hh⟩
      · rw [rt_iff]; refine ⟨?_, Or.inr ⟨by simp; omega, hh⟩⟩
        intro d hd'
        rcases List.mem_append.1 hd' with x | x
        · exact rt_dg r1 d x
        · simp only [List.mem_singleton] at x; subst x; rw [t]; omega
      · rw [dv_snoc, r2, t]; omega

theorem rt_tx (n : Nat) : rt (tx n) = true := (ds_spec (n + 1) n (by omega)).1
theorem dv_tx (n : Nat) : dv (tx n) = n := (ds_spec (n + 1) n (by omega)).2.1
theorem tx_dv {l : List UInt8} (h : rt l = true) : tx (dv l) = l := rt_inj (rt_tx _) h (dv_tx _)
theorem tx_of {l : List UInt8} {n : Nat} (h : rt l = true) (e : dv l = n) : tx n = l := by rw [← e]; exact tx_dv h
theorem tx_inj {n m : Nat} (h : tx n = tx m) : n = m := by rw [← dv_tx n, h, dv_tx]

/-- how many digits -/
def tl (n : Nat) : Nat := (tx n).length
theorem tl_pos (n : Nat) : 1 ≤ tl n := rt_pos (rt_tx n)
theorem lt_tl (n : Nat) : n < 10 ^ tl n := by have := dv_lt (rt_dg (rt_tx n)); rwa [dv_tx] at this
theorem tl_low {n : Nat} (h : 1 < tl n) : 10 ^ (tl n - 1) ≤ n := by have := rt_low (rt_tx n) h; rwa [dv_tx] at this
theorem tl_mono {n m : Nat} (h : n ≤ m) : tl n ≤ tl m := rt_len_le (rt_tx n) (rt_tx m) (by rw [dv_tx, dv_tx]; exact h)
theorem tl_le {n k : Nat} (h : n < 10 ^ k) (hk : 1 ≤ k) : tl n ≤ k := by
  rcases Nat.lt_or_ge k (tl n) with c | c
  · exfalso
    have h1 := tl_low (n := n) (by omega)
    have h3 : 10 ^ k ≤ 10 ^ (tl n - 1) := Nat.pow_le_pow_right (by omega) (by omega)
    omega
  · exact c
theorem ten_le {k : Nat} (h : 1 ≤ k) : 10 ≤ 10 ^ k := by
  have : 10 ^ 1 ≤ 10 ^ k := Nat.pow_le_pow_right (by omega) h
  omega
theorem add_le_mul {p q : Nat} (hp : 2 ≤ p) (hq : 2 ≤ q) : p + q ≤ p * q := by
  obtain ⟨a, rfl⟩ : ∃ a, p = a + 2 := ⟨p - 2, by omega⟩
  obtain ⟨b, rfl⟩ : ∃ b, q = b + 2 := ⟨q - 2, by omega⟩
  have : (a + 2) * (b + 2) = a * b + 2 * a + 2 * b + 4 := by
    rw [Nat.add_mul, Nat.mul_add, Nat.mul_add]; omega
  omega
theorem tl_add (n m : Nat) : tl (n + m) ≤ tl n + tl m := by
  refine tl_le ?_ (by have := tl_pos n; omega)
  have h1 := lt_tl n
  have h2 := lt_tl m
  have h3 := add_le_mul (p := 10 ^ tl n) (q := 10 ^ tl m) (by have := ten_le (tl_pos n); omega) (by have := ten_le (tl_pos m); omega)
  rw [Nat.pow_add]; omega
theorem tl_mul (n m : Nat) : tl (n * m) ≤ tl n + tl m := by
  refine tl_le ?_ (by have := tl_pos n; omega)
  rw [Nat.pow_add]
  exact Nat.mul_lt_mul'' (lt_tl n) (lt_tl m)
theorem tl_sub (n m : Nat) : tl (n - m) ≤ tl n := tl_mono (by omega)

/-- the text as the program has it -/
def S (n : Nat) : ByteArray := ⟨(tx n).toArray⟩
theorem S_size (n : Nat) : (S n).size = tl n := by simp [S, ByteArray.size, tl]
theorem S_data (n : Nat) : (S n).data.toList = tx n := by simp [S]
theorem S_of {s : ByteArray} (h : rt s.data.toList = true) : s = S (dv s.data.toList) := by
  unfold S; rw [tx_dv h]
theorem S_inj {n m : Nat} (h : S n = S m) : n = m := by
  have : (S n).data.toList = (S m).data.toList := by rw [h]
  rw [S_data, S_data] at this
  exact tx_inj this

/-! bytes in a row -/
def bd (o : Nat → Nat) : Nat → Nat → Nat
  | _, 0 => 0
  | p, m + 1 => (o p - 48) * 10 ^ m + bd o (p + 1) m

theorem bd_congr {o q : Nat → Nat} : ∀ {m p : Nat}, (∀ i, p ≤ i → i < p + m → o i = q i) → bd o p m = bd q p m := by
  intro m
  induction m with
  | zero => intro p _; rfl
  | succ m ih =>
    intro p h
    simp only [bd]
    rw [h p (by omega) (by omega), ih (fun i a b => h i (by omega) (by omega))]

theorem mod_step (z j : Nat) : z % 10 ^ (j + 1) = z / 10 ^ j % 10 * 10 ^ j + z % 10 ^ j := by
  rw [Nat.pow_succ, Nat.mod_mul, Nat.mul_comm (10 ^ j), Nat.add_comm]

theorem bd_nine {o : Nat → Nat} {p m z : Nat} (h : ∀ i, p ≤ i → i < p + 9 → o i = 48 + z / 10 ^ (p + 8 - i) % 10) :
    ∀ j, j ≤ 9 → bd o (p + 9 - j) (j + m) = z % 10 ^ j * 10 ^ m + bd o (p + 9) m := by
  intro j
  induction j with
  | zero => intro _; simp [Nat.mod_one]
  | succ j ih =>
    intro hj
    rw [show j + 1 + m = (j + m) + 1 by omega]
    simp only [bd]
    rw [show p + 9 - (j + 1) + 1 = p + 9 - j by omega, ih (by omega), h (p + 9 - (j + 1)) (by omega) (by omega), show p + 8 - (p + 9 - (j + 1)) = j by omega, mod_step, Nat.add_mul, Nat.mul_assoc, ← Nat.pow_add, Nat.add_sub_cancel_left]
    omega

theorem bd_limb {o : Nat → Nat} {p m z : Nat} (hz : z < 1000000000) (h : ∀ i, p ≤ i → i < p + 9 → o i = 48 + z / 10 ^ (p + 8 - i) % 10) : bd o p (9 + m) = z * 10 ^ m + bd o (p + 9) m := by
  have := bd_nine (m := m) h 9 (Nat.le_refl _)
  rw [Nat.add_sub_cancel, Nat.mod_eq_of_lt (by omega)] at this
  exact this

theorem bd_zeros {o : Nat → Nat} : ∀ {k m p : Nat}, (∀ i, p ≤ i → i < p + k → o i = 48) → bd o p (k + m) = bd o (p + k) m := by
  intro k
  induction k with
  | zero => intro m p _; simp
  | succ k ih =>
    intro m p h
    rw [show k + 1 + m = (k + m) + 1 by omega]
    simp only [bd]
    rw [h p (by omega) (by omega), ih (fun i a b => h i (by omega) (by omega)), show p + 1 + k = p + (k + 1) by omega]
    simp

theorem dv_bd {o : Nat → Nat} : ∀ {m p : Nat}, (∀ i, p ≤ i → i < p + m → o i < 256) → dv ((List.range m).map fun i => UInt8.ofNat (o (p + i))) = bd o p m := by
  intro m
  induction m with
  | zero => intro p _; rfl
  | succ m ih =>
    intro p h
    rw [List.range_succ_eq_map, List.map_cons, dv_cons, List.map_map]
    simp only [bd, List.length_map, List.length_range]
    have e : (List.range m).map ((fun i => UInt8.ofNat (o (p + i))) ∘ Nat.succ) = (List.range m).map fun i => UInt8.ofNat (o (p + 1 + i)) := by
      apply List.map_congr_left
      intro i _
      simp only [Function.comp, Nat.succ_eq_add_one]
      rw [show p + (i + 1) = p + 1 + i by omega]
    rw [e, ih (fun i a b => h i (by omega) (by omega))]
    have := h p (by omega) (by omega)
    simp only [Nat.add_zero, UInt8.toNat_ofNat']
    rw [Nat.mod_eq_of_lt (by omega)]

/-- the text that is left when the noughts ahead are skipped -/
theorem rt_row {o : Nat → Nat} {p m : Nat} (hm : 0 < m) (hd : ∀ i, p ≤ i → i < p + m → 48 ≤ o i ∧ o i ≤ 57) (hp : o p ≠ 48) : rt ((List.range m).map fun i => UInt8.ofNat (o (p + i))) = true := by
  rw [rt_iff]
  have hb : ∀ n, 48 ≤ n → n ≤ 57 → (UInt8.ofNat n).toNat = n := fun n _ _ => by simp only [UInt8.toNat_ofNat']; omega
  refine ⟨?_, ?_⟩
  · intro c hc
    obtain ⟨i, hi, rfl⟩ := List.mem_map.1 hc
    have := hd (p + i) (by omega) (by simp at hi; omega)
    rw [hb _ this.1 this.2]; exact this
  · by_cases e : m = 1
    · left; simp [e]
    · right
      refine ⟨by simp; omega, ?_⟩
      obtain ⟨k, rfl⟩ : ∃ k, m = k + 1 := ⟨m - 1, by omega⟩
      rw [List.range_succ_eq_map, List.map_cons, List.head?_cons]
      intro x
      simp only [Option.some.injEq, Nat.add_zero] at x
      have h0 := hd p (by omega) (by omega)
      have := hb _ h0.1 h0.2
      rw [x] at this
      exact hp this.symm

/-- a limb, or 0 beyond -/
def ext (f : Nat → Nat) (n : Nat) : Nat → Nat := fun i => if i < n then f i else 0

theorem ext_lt {f : Nat → Nat} {n : Nat} (h : ∀ i, i < n → f i < 1000000000) (i : Nat) : ext f n i < 1000000000 := by
  unfold ext; split
  · exact h i (by assumption)
  · omega

theorem lv_ext {f : Nat → Nat} {n m : Nat} (h : n ≤ m) : lv (ext f n) m = lv f n := by
  rw [lv_cut h (fun i a b => by unfold ext; rw [if_neg (by omega)])]
  exact lv_congr fun i hi => by unfold ext; rw [if_pos hi]

/-- a step of a sum, of a limb and a carry -/
theorem carry_step (x t P : Nat) : x + t % 1000000000 * P + t / 1000000000 * (P * 1000000000) = x + t * P := by
  have h := Nat.div_add_mod t 1000000000
  have : t * P = (1000000000 * (t / 1000000000) + t % 1000000000) * P := by rw [h]
  rw [this, Nat.add_mul, Nat.mul_comm P 1000000000, ← Nat.mul_assoc, Nat.mul_comm (t / 1000000000) 1000000000]
  omega

structure AddI (o f g : Nat → Nat) (k c : Nat) : Prop where
  lim : ∀ i, i < k → o i < 1000000000
  car : c ≤ 1
  val : lv o k + c * 1000000000 ^ k = lv f k + lv g k

theorem AddI.step {o f g : Nat → Nat} {k c : Nat} (h : AddI o f g k c) (hf : f k < 1000000000) (hg : g k < 1000000000) : AddI (up o k ((f k + g k + c) % 1000000000)) f g (k + 1) ((f k + g k + c) / 1000000000) := by
  have hc := h.car
  refine ⟨fun i hi => ?_, by omega, ?_⟩
  · by_cases e : i = k
    · subst e; rw [up_same]; omega
    · rw [up_other _ _ e]; exact h.lim i (by omega)
  · rw [lv_succ, lv_succ, lv_succ, up_same, lv_up (Nat.le_refl _), Nat.pow_succ, carry_step, Nat.add_mul, Nat.add_mul]
    have := h.val
    omega

structure SubI (o f g : Nat → Nat) (k c : Nat) : Prop where
  lim : ∀ i, i < k → o i < 1000000000
  car : c ≤ 1
  val : lv o k + lv g k = lv f k + c * 1000000000 ^ k

theorem SubI.step {o f g : Nat → Nat} {k c : Nat} (h : SubI o f g k c) (hf : f k < 1000000000) (hg : g k < 1000000000) :
    ∃ l d, ((f k : Int) - g k + -(c : Int)) % 1000000000 = (l : Nat) ∧ ((f k : Int) - g k + -(c : Int)) / 1000000000 = -((d : Nat) : Int) ∧ SubI (up o k l) f g (k + 1) d := by
  have hc := h.car
  have key : ∀ l d, l < 1000000000 → d ≤ 1 → l + g k + c = f k + d * 1000000000 → SubI (up o k l) f g (k + 1) d := by
    intro l d hl hd he
    refine ⟨fun i hi => ?_, hd, ?_⟩
    · by_cases e : i = k
      · subst e; rw [up_same]; exact hl
      · rw [up_other _ _ e]; exact h.lim i (by omega)
    · rw [lv_succ, lv_succ, lv_succ, up_same, lv_up (Nat.le_refl _), Nat.pow_succ]
      have h1 := h.val
      have h2 : (l + g k + c) * 1000000000 ^ k = (f k + d * 1000000000) * 1000000000 ^ k := by rw [he]
      rw [Nat.add_mul, Nat.add_mul, Nat.add_mul, Nat.mul_assoc d, Nat.mul_comm 1000000000 (1000000000 ^ k)] at h2
      omega
  by_cases e : g k + c ≤ f k
  · refine ⟨f k - g k - c, 0, by omega, by omega, key _ _ (by omega) (by omega) (by omega)⟩
  · refine ⟨f k + 1000000000 - g k - c, 1, by omega, by omega, key _ _ (by omega) (by omega) (by omega)⟩

theorem SubI.done {o f g : Nat → Nat} {n m c : Nat} (h : SubI o f (ext g m) n c) (hm : m ≤ n) (hle : lv g m ≤ lv f n) : lv o n = lv f n - lv g m := by
  have h1 := h.val
  rw [lv_ext hm] at h1
  have h2 := lv_lt h.lim
  have hc := h.car
  rcases Nat.eq_zero_or_pos c with e | e
  · subst e; omega
  · obtain rfl : c = 1 := by omega
    omega
end
end Go.Proofs.YtadgnafafdfioaaGreatDoor.Nm
namespace Go.Proofs.YtadgnafafdfioaaGreatDoor.Nm
section
set_option maxRecDepth 100000

def sh (p : Nat → Nat) (i : Nat) : Nat → Nat := fun t => p (i + t)

theorem lv_split (p : Nat → Nat) (i m : Nat) : lv p (i + m) = lv p i + 1000000000 ^ i * lv (sh p i) m := by
  induction m with
  | zero => simp [lv]
  | succ m ih =>
    rw [show i + (m + 1) = (i + m) + 1 by omega, lv_succ, ih, lv_succ, Nat.mul_add, Nat.pow_add]
    have : p (i + m) * (1000000000 ^ i * 1000000000 ^ m) = 1000000000 ^ i * (sh p i m * 1000000000 ^ m) := by
      unfold sh; rw [Nat.mul_left_comm]
    rw [this]; omega

/-- inside a row of a product -/
structure MulJ (p P g : Nat → Nat) (N i j c x : Nat) : Prop where
  lim : ∀ t, t < N → p t < 1000000000
  out : ∀ t, t < i ∨ i + j ≤ t → p t = P t
  car : c < 1000000000
  val : lv (sh p i) j + c * 1000000000 ^ j = lv (sh P i) j + x * lv g j

theorem mul_bd {x y : Nat} (hx : x < 1000000000) (hy : y < 1000000000) : x * y ≤ 999999998000000001 := by
  have : x * y ≤ 999999999 * 999999999 := Nat.mul_le_mul (by omega) (by omega)
  omega

theorem MulJ.step {p P g : Nat → Nat} {N i j c x : Nat} (h : MulJ p P g N i j c x) (hN : i + j < N) (hx : x < 1000000000) (hg : g j < 1000000000) :
    MulJ (up p (i + j) ((p (i + j) + x * g j + c) % 1000000000)) P g N i (j + 1) ((p (i + j) + x * g j + c) / 1000000000) x := by
  have hb := mul_bd hx hg
  have hl := h.lim (i + j) hN
  have hc := h.car
  refine ⟨fun t ht => ?_, fun t ht => ?_, by omega, ?_⟩
  · by_cases e : t = i + j
    · subst e; rw [up_same]; omega
    · rw [up_other _ _ e]; exact h.lim t ht
  · rw [up_other _ _ (by omega)]; exact h.out t (by omega)
  · have e1 : lv (sh (up p (i + j) ((p (i + j) + x * g j + c) % 1000000000)) i) j = lv (sh p i) j := lv_congr fun t ht => by unfold sh; rw [up_other _ _ (by omega)]
    have e2 : sh (up p (i + j) ((p (i + j) + x * g j + c) % 1000000000)) i j = (p (i + j) + x * g j + c) % 1000000000 := by unfold sh; rw [up_same]
    have e3 : sh P i j = p (i + j) := by unfold sh; exact (h.out (i + j) (by omega)).symm
    rw [lv_succ, lv_succ, lv_succ, e1, e2, e3, Nat.pow_succ, carry_step, Nat.add_mul, Nat.add_mul, Nat.mul_add, Nat.mul_assoc x]
    have := h.val
    omega

theorem MulJ.start {P g : Nat → Nat} {N i x : Nat} (hP : ∀ t, t < N → P t < 1000000000) : MulJ P P g N i 0 0 x :=
  ⟨hP, fun _ _ => rfl, by omega, by simp [lv]⟩

/-- row by row -/
structure MulI (p f : Nat → Nat) (N m G i : Nat) : Prop where
  lim : ∀ t, t < N → p t < 1000000000
  out : ∀ t, i + m ≤ t → t < N → p t = 0
  val : lv p (i + m) = lv f i * G

theorem MulI.step {p P f g : Nat → Nat} {N m i c : Nat} (h : MulI P f N m (lv g m) i) (k : MulJ p P g N i m c (f i)) (_hN : i + m < N) : MulI (up p (i + m) c) f N m (lv g m) (i + 1) := by
  refine ⟨fun t ht => ?_, fun t a b => ?_, ?_⟩
  · by_cases e : t = i + m
    · subst e; rw [up_same]; exact k.car
    · rw [up_other _ _ e]; exact k.lim t ht
  · rw [up_other _ _ (by omega), k.out t (by omega)]; exact h.out t (by omega) b
  · have h1 := h.val
    have h2 := k.val
    rw [show i + 1 + m = (i + m) + 1 by omega, lv_succ, up_same, lv_up (Nat.le_refl _), lv_split, lv_succ, Nat.add_mul, ← h1, lv_split]
    have e1 : lv p i = lv P i := lv_congr fun t ht => k.out t (by omega)
    have e2 : f i * 1000000000 ^ i * lv g m = 1000000000 ^ i * (f i * lv g m) := by rw [Nat.mul_comm (f i), Nat.mul_assoc]
    have e3 : c * 1000000000 ^ (i + m) = 1000000000 ^ i * (c * 1000000000 ^ m) := by rw [Nat.pow_add, Nat.mul_left_comm]
    have e4 : 1000000000 ^ i * lv (sh p i) m + 1000000000 ^ i * (c * 1000000000 ^ m) = 1000000000 ^ i * lv (sh P i) m + 1000000000 ^ i * (f i * lv g m) := by rw [← Nat.mul_add, ← Nat.mul_add, h2]
    rw [e1, e2, e3]
    omega

theorem MulI.start {f : Nat → Nat} {N m G : Nat} : MulI (fun _ => 0) f N m G 0 := by
  refine ⟨fun t _ => by omega, fun t _ _ => rfl, ?_⟩
  have : ∀ n, lv (fun _ => 0) n = 0 := fun n => by
    induction n with
    | zero => rfl
    | succ n ih => rw [lv_succ, ih]; omega
  rw [this]; simp [lv]
end
end Go.Proofs.YtadgnafafdfioaaGreatDoor.Nm
namespace Go.Proofs.YtadgnafafdfioaaGreatDoor.Nm
section
set_option maxRecDepth 100000

theorem lv_less {f g : Nat → Nat} {n k : Nat} (hk : k < n) (hf : ∀ i, i < n → f i < 1000000000) (he : ∀ i, k < i → i < n → f i = g i) (hlt : f k < g k) : lv f n < lv g n := by
  obtain ⟨m, rfl⟩ : ∃ m, n = (k + 1) + m := ⟨n - (k + 1), by omega⟩
  rw [lv_split f (k + 1) m, lv_split g (k + 1) m, lv_succ, lv_succ]
  have e1 : lv (sh f (k + 1)) m = lv (sh g (k + 1)) m := lv_congr fun i hi => he _ (by omega) (by omega)
  have h1 := lv_lt (f := f) (n := k) (fun i hi => hf i (by omega))
  have h2 : (f k + 1) * 1000000000 ^ k ≤ g k * 1000000000 ^ k := Nat.mul_le_mul_right _ hlt
  rw [Nat.add_mul, Nat.one_mul] at h2
  rw [e1]
  omega

theorem sh_cons (f : Nat → Nat) (k m : Nat) : lv (sh f k) (m + 1) = f k + 1000000000 * lv (sh f (k + 1)) m := by
  have := lv_split (sh f k) 1 m
  rw [Nat.add_comm m 1, this]
  have e : sh (sh f k) 1 = sh f (k + 1) := by funext t; unfold sh; congr 1; omega
  rw [e]
  simp [lv, sh]

/-- a short division, from the top down: k limbs are left -/
structure DivI (q f : Nat → Nat) (n d k r : Nat) : Prop where
  lim : ∀ i, k ≤ i → i < n → q i < 1000000000
  rest : r < d
  val : lv (sh f k) (n - k) = d * lv (sh q k) (n - k) + r

theorem DivI.start {q f : Nat → Nat} {n d : Nat} (hd : 0 < d) : DivI q f n d n 0 :=
  ⟨fun i a b => by omega, hd, by rw [Nat.sub_self]; simp [lv]⟩

theorem DivI.step {q f : Nat → Nat} {n d k r : Nat} (h : DivI q f n d (k + 1) r) (hk : k < n) (hf : f k < 1000000000) (hd : 0 < d) :
    DivI (up q k ((r * 1000000000 + f k) / d)) f n d k ((r * 1000000000 + f k) % d) ∧ (r * 1000000000 + f k) / d < 1000000000 := by
  have hr := h.rest
  have hq : (r * 1000000000 + f k) / d < 1000000000 := by
    rw [Nat.div_lt_iff_lt_mul hd]
    have : (r + 1) * 1000000000 ≤ d * 1000000000 := Nat.mul_le_mul_right _ hr
    omega
  refine ⟨⟨fun i a b => ?_, Nat.mod_lt _ hd, ?_⟩, hq⟩
  · by_cases e : i = k
    · subst e; rw [up_same]; exact hq
    · rw [up_other _ _ e]; exact h.lim i (by omega) b
  · have hv := h.val
    have e1 : lv (sh (up q k ((r * 1000000000 + f k) / d)) (k + 1)) (n - (k + 1)) = lv (sh q (k + 1)) (n - (k + 1)) := lv_congr fun i hi => by unfold sh; rw [up_other _ _ (by omega)]
    rw [show n - k = (n - (k + 1)) + 1 by omega, sh_cons, sh_cons, up_same, e1, hv, Nat.mul_add, Nat.mul_add]
    have h2 := Nat.div_add_mod (r * 1000000000 + f k) d
    have h3 : 1000000000 * (d * lv (sh q (k + 1)) (n - (k + 1))) = d * (1000000000 * lv (sh q (k + 1)) (n - (k + 1))) := by rw [Nat.mul_left_comm]
    omega

theorem sh_zero (f : Nat → Nat) : sh f 0 = f := by funext t; unfold sh; congr 1; omega

theorem DivI.done {q f : Nat → Nat} {n d r : Nat} (h : DivI q f n d 0 r) : lv q n = lv f n / d ∧ r = lv f n % d := by
  have hv := h.val
  have hr := h.rest
  rw [sh_zero, sh_zero, Nat.sub_zero] at hv
  rw [hv]
  exact ⟨by rw [Nat.mul_add_div (by omega), Nat.div_eq_of_lt hr]; omega, by rw [Nat.mul_add_mod, Nat.mod_eq_of_lt hr]⟩
end
end Go.Proofs.YtadgnafafdfioaaGreatDoor.Nm
namespace Go.Proofs.YtadgnafafdfioaaGreatDoor.Nm
section
set_option maxRecDepth 100000

/-! times a limb -/
structure TmI (o f : Nat → Nat) (d k c : Nat) : Prop where
  lim : ∀ i, i < k → o i < 1000000000
  car : c < 1000000000
  val : lv o k + c * 1000000000 ^ k = lv f k * d

theorem TmI.step {o f : Nat → Nat} {d k c : Nat} (h : TmI o f d k c) (hf : f k < 1000000000) (hd : d < 1000000000) : TmI (up o k ((f k * d + c) % 1000000000)) f d (k + 1) ((f k * d + c) / 1000000000) := by
  have hb := mul_bd hf hd
  have hc := h.car
  refine ⟨fun i hi => ?_, by omega, ?_⟩
  · by_cases e : i = k
    · subst e; rw [up_same]; omega
    · rw [up_other _ _ e]; exact h.lim i (by omega)
  · rw [lv_succ, lv_succ, up_same, lv_up (Nat.le_refl _), Nat.pow_succ, carry_step, Nat.add_mul, Nat.add_mul]
    have h1 := h.val
    have h2 : f k * 1000000000 ^ k * d = f k * d * 1000000000 ^ k := by rw [Nat.mul_right_comm]
    omega

/-! a multiple taken off -/
structure TkI (S R v : Nat → Nat) (N i q k m : Nat) : Prop where
  lim : ∀ t, t < N → S t < 1000000000
  out : ∀ t, t < i ∨ i + k ≤ t → S t = R t
  car : m < 1000000000
  val : lv (sh S i) k + q * lv v k = lv (sh R i) k + m * 1000000000 ^ k

theorem lv_sh_up {S : Nat → Nat} {i k l : Nat} : lv (sh (up S (i + k) l) i) (k + 1) = lv (sh S i) k + l * 1000000000 ^ k := by
  rw [lv_succ]
  have e1 : lv (sh (up S (i + k) l) i) k = lv (sh S i) k := lv_congr fun t ht => by unfold sh; rw [up_other _ _ (by omega)]
  have e2 : sh (up S (i + k) l) i k = l := by unfold sh; rw [up_same]
  rw [e1, e2]

theorem TkI.gen {S R v : Nat → Nat} {N i q k m p : Nat} (h : TkI S R v N i q k m) (hN : i + k < N) (hp : p ≤ 999999998000000001) :
    ∃ l m', ((S (i + k) : Int) - (p : Int) + -(m : Int)) % 1000000000 = (l : Nat) ∧ ((S (i + k) : Int) - (p : Int) + -(m : Int)) / 1000000000 = -((m' : Nat) : Int) ∧ l < 1000000000 ∧ m' < 1000000000 ∧ l + p + m = S (i + k) + m' * 1000000000 := by
  have hr := h.lim (i + k) hN
  have hm := h.car
  refine ⟨(((S (i + k) : Int) - (p : Int) + -(m : Int)) % 1000000000).toNat, (-(((S (i + k) : Int) - (p : Int) + -(m : Int)) / 1000000000)).toNat, ?_, ?_, ?_, ?_, ?_⟩ <;> omega

theorem TkI.mk' {S R v : Nat → Nat} {N i q k m l m' : Nat} (h : TkI S R v N i q k m) (hl : l < 1000000000) (hm : m' < 1000000000) (e : l + v k * q + m = S (i + k) + m' * 1000000000) : TkI (up S (i + k) l) R v N i q (k + 1) m' := by
  refine ⟨fun t ht => ?_, fun t ht => ?_, hm, ?_⟩
  · by_cases c : t = i + k
    · subst c; rw [up_same]; exact hl
    · rw [up_other _ _ c]; exact h.lim t ht
  · rw [up_other _ _ (by omega)]; exact h.out t (by omega)
  · rw [lv_sh_up, lv_succ, lv_succ, Nat.pow_succ, Nat.mul_add]
    have e3 : sh R i k = S (i + k) := by unfold sh; exact (h.out (i + k) (by omega)).symm
    rw [e3]
    have h1 := h.val
    have h2 : (l + v k * q + m) * 1000000000 ^ k = (S (i + k) + m' * 1000000000) * 1000000000 ^ k := by rw [e]
    rw [Nat.add_mul, Nat.add_mul, Nat.add_mul, Nat.mul_assoc m', Nat.mul_comm 1000000000 (1000000000 ^ k), Nat.mul_comm (v k) q, Nat.mul_assoc q] at h2
    omega

theorem TkI.step {S R v : Nat → Nat} {N i q k m : Nat} (h : TkI S R v N i q k m) (hN : i + k < N) (hv : v k < 1000000000) (hq : q < 1000000000) :
    ∃ l m', ((S (i + k) : Int) - (v k : Int) * (q : Int) + -(m : Int)) % 1000000000 = (l : Nat) ∧ ((S (i + k) : Int) - (v k : Int) * (q : Int) + -(m : Int)) / 1000000000 = -((m' : Nat) : Int) ∧ l < 1000000000 ∧ TkI (up S (i + k) l) R v N i q (k + 1) m' := by
  obtain ⟨l, m', h1, h2, h3, h4, h5⟩ := h.gen hN (mul_bd hv hq)
  refine ⟨l, m', ?_, ?_, h3, h.mk' h3 h4 h5⟩
  · rw [← h1]; simp
  · rw [← h2]; simp

/-- the last limb -/
theorem TkI.last {S R v : Nat → Nat} {N i q n m : Nat} (h : TkI S R v N i q n m) (hN : i + n < N) :
    ∃ l m', ((S (i + n) : Int) + -(m : Int)) % 1000000000 = (l : Nat) ∧ ((S (i + n) : Int) + -(m : Int)) / 1000000000 = -((m' : Nat) : Int) ∧ l < 1000000000 ∧ m' ≤ 1 ∧
      (∀ t, t < N → up S (i + n) l t < 1000000000) ∧ (∀ t, t < i ∨ i + (n + 1) ≤ t → up S (i + n) l t = R t) ∧ lv (sh (up S (i + n) l) i) (n + 1) + q * lv v n = lv (sh R i) (n + 1) + m' * 1000000000 ^ (n + 1) := by
  obtain ⟨l, m', h1, h2, h3, h4, h5⟩ := h.gen (p := 0) hN (by omega)
  have hm := h.car
  refine ⟨l, m', by rw [← h1]; simp, by rw [← h2]; simp, h3, by omega, fun t ht => ?_, fun t ht => ?_, ?_⟩
  · by_cases c : t = i + n
    · subst c; rw [up_same]; exact h3
    · rw [up_other _ _ c]; exact h.lim t ht
  · rw [up_other _ _ (by omega)]; exact h.out t (by omega)
  · rw [lv_sh_up, lv_succ, Nat.pow_succ]
    have e3 : sh R i n = S (i + n) := by unfold sh; exact (h.out (i + n) (by omega)).symm
    rw [e3]
    have k1 := h.val
    have k2 : (l + 0 + m) * 1000000000 ^ n = (S (i + n) + m' * 1000000000) * 1000000000 ^ n := by rw [h5]
    rw [Nat.add_zero, Nat.add_mul, Nat.add_mul, Nat.mul_assoc m', Nat.mul_comm 1000000000 (1000000000 ^ n)] at k2
    omega

/-! the divisor put back -/
structure PbI (S R v : Nat → Nat) (N i k c : Nat) : Prop where
  lim : ∀ t, t < N → S t < 1000000000
  out : ∀ t, t < i ∨ i + k ≤ t → S t = R t
  car : c ≤ 1
  val : lv (sh S i) k + c * 1000000000 ^ k = lv (sh R i) k + lv v k

theorem PbI.step {S R v : Nat → Nat} {N i k c : Nat} (h : PbI S R v N i k c) (hN : i + k < N) (hv : v k < 1000000000) :
    PbI (up S (i + k) ((S (i + k) + v k + c) % 1000000000)) R v N i (k + 1) ((S (i + k) + v k + c) / 1000000000) := by
  have hr := h.lim (i + k) hN
  have hc := h.car
  refine ⟨fun t ht => ?_, fun t ht => ?_, by omega, ?_⟩
  · by_cases e : t = i + k
    · subst e; rw [up_same]; omega
    · rw [up_other _ _ e]; exact h.lim t ht
  · rw [up_other _ _ (by omega)]; exact h.out t (by omega)
  · rw [lv_sh_up, lv_succ, lv_succ, Nat.pow_succ, carry_step, Nat.add_mul, Nat.add_mul]
    have e3 : sh R i k = S (i + k) := by unfold sh; exact (h.out (i + k) (by omega)).symm
    rw [e3]
    have := h.val
    omega

theorem PbI.last {S R v : Nat → Nat} {N i n c : Nat} (h : PbI S R v N i n c) (hN : i + n < N) :
    (∀ t, t < N → up S (i + n) ((S (i + n) + c) % 1000000000) t < 1000000000) ∧ (∀ t, t < i ∨ i + (n + 1) ≤ t → up S (i + n) ((S (i + n) + c) % 1000000000) t = R t) ∧
      lv (sh (up S (i + n) ((S (i + n) + c) % 1000000000)) i) (n + 1) + (S (i + n) + c) / 1000000000 * 1000000000 ^ (n + 1) = lv (sh R i) (n + 1) + lv v n := by
  have hr := h.lim (i + n) hN
  refine ⟨fun t ht => ?_, fun t ht => ?_, ?_⟩
  · by_cases e : t = i + n
    · subst e; rw [up_same]; omega
    · rw [up_other _ _ e]; exact h.lim t ht
  · rw [up_other _ _ (by omega)]; exact h.out t (by omega)
  · rw [lv_sh_up, lv_succ, Nat.pow_succ, carry_step, Nat.add_mul]
    have e3 : sh R i n = S (i + n) := by unfold sh; exact (h.out (i + n) (by omega)).symm
    rw [e3]
    have := h.val
    omega

/-! the guess: P is T rows of W and pl, V is v rows of W and vl -/
theorem guess_low {T W pl v vl q : Nat} (_hW : 0 < W) (hp : pl < W) (h : q * (v * W + vl) ≤ T * W + pl) : q * v ≤ T := by
  have h1 : q * v * W ≤ q * (v * W + vl) := by rw [Nat.mul_add, Nat.mul_assoc]; omega
  have h2 : q * v * W < (T + 1) * W := by rw [Nat.add_mul, Nat.one_mul]; omega
  have := Nat.lt_of_mul_lt_mul_right h2
  omega

/-- a guess and what is left, of the top two limbs -/
structure GsI (q l p0 p1 v1 Q : Nat) : Prop where
  val : q * v1 + l = p0 * 1000000000 + p1
  ge : Q ≤ q

theorem GsI.start {p0 p1 p2 v1 v2 W pl vl : Nat} (hW : 0 < W) (hpl : pl < W) (hp2 : p2 < 1000000000) (hv : 0 < v1) :
    GsI ((p0 * 1000000000 + p1) / v1) ((p0 * 1000000000 + p1) % v1) p0 p1 v1 ((((p0 * 1000000000 + p1) * 1000000000 + p2) * W + pl) / ((v1 * 1000000000 + v2) * W + vl)) := by
  refine ⟨by rw [Nat.mul_comm]; exact Nat.div_add_mod _ _, ?_⟩
  generalize hQ : (((p0 * 1000000000 + p1) * 1000000000 + p2) * W + pl) / ((v1 * 1000000000 + v2) * W + vl) = Q
  have h1 : Q * ((v1 * 1000000000 + v2) * W + vl) ≤ ((p0 * 1000000000 + p1) * 1000000000 + p2) * W + pl := by rw [← hQ]; exact Nat.div_mul_le_self _ _
  have h2 := guess_low hW hpl h1
  rw [Nat.le_div_iff_mul_le hv]
  rw [Nat.mul_add, ← Nat.mul_assoc] at h2
  have h3 : Q * v1 * 1000000000 < (p0 * 1000000000 + p1 + 1) * 1000000000 := by omega
  have := Nat.lt_of_mul_lt_mul_right h3
  omega

theorem GsI.step {q l p0 p1 p2 v1 v2 W pl vl : Nat} (h : GsI q l p0 p1 v1 ((((p0 * 1000000000 + p1) * 1000000000 + p2) * W + pl) / ((v1 * 1000000000 + v2) * W + vl))) (hW : 0 < W) (hpl : pl < W)
    (hB : ((p0 * 1000000000 + p1) * 1000000000 + p2) * W + pl < 1000000000 * ((v1 * 1000000000 + v2) * W + vl)) (hc : 1000000000 ≤ q ∨ l * 1000000000 + p2 < q * v2) :
    1 ≤ q ∧ GsI (q - 1) (l + v1) p0 p1 v1 ((((p0 * 1000000000 + p1) * 1000000000 + p2) * W + pl) / ((v1 * 1000000000 + v2) * W + vl)) := by
  have hv := h.val
  have hlt : (((p0 * 1000000000 + p1) * 1000000000 + p2) * W + pl) / ((v1 * 1000000000 + v2) * W + vl) < q := by
    rcases hc with c | c
    · have hpos : 0 < (v1 * 1000000000 + v2) * W + vl := by omega
      have : (((p0 * 1000000000 + p1) * 1000000000 + p2) * W + pl) / ((v1 * 1000000000 + v2) * W + vl) < 1000000000 := by rw [Nat.div_lt_iff_lt_mul hpos]; exact hB
      omega
    · rcases Nat.lt_or_ge ((((p0 * 1000000000 + p1) * 1000000000 + p2) * W + pl) / ((v1 * 1000000000 + v2) * W + vl)) q with d | d
      · exact d
      · exfalso
        have h1 : q * ((v1 * 1000000000 + v2) * W + vl) ≤ ((p0 * 1000000000 + p1) * 1000000000 + p2) * W + pl := Nat.le_trans (Nat.mul_le_mul_right _ d) (Nat.div_mul_le_self _ _)
        have h2 := guess_low hW hpl h1
        rw [Nat.mul_add, ← Nat.mul_assoc] at h2
        omega
  have hq : 1 ≤ q := Nat.lt_of_le_of_lt (Nat.zero_le _) hlt
  refine ⟨hq, ?_, Nat.le_sub_one_of_lt hlt⟩
  obtain ⟨r, rfl⟩ : ∃ r, q = r + 1 := ⟨q - 1, by omega⟩
  rw [Nat.add_sub_cancel]
  rw [Nat.add_mul] at hv
  omega

theorem GsI.done {q l p0 p1 p2 v1 v2 W pl vl : Nat} (h : GsI q l p0 p1 v1 ((((p0 * 1000000000 + p1) * 1000000000 + p2) * W + pl) / ((v1 * 1000000000 + v2) * W + vl))) (hW : 0 < W) (hvl : vl < W) (hv1 : 0 < v1) (hv2 : v2 < 1000000000)
    (hp0 : p0 ≤ v1) (hp1 : p1 < 1000000000) (hc : ¬ (l < 1000000000 ∧ (1000000000 ≤ q ∨ l * 1000000000 + p2 < q * v2))) :
    q < 1000000000 ∧ q ≤ (((p0 * 1000000000 + p1) * 1000000000 + p2) * W + pl) / ((v1 * 1000000000 + v2) * W + vl) + 1 := by
  have hv := h.val
  have hq : q < 1000000000 := by
    rcases Nat.lt_or_ge q 1000000000 with c | c
    · exact c
    · exfalso
      have h1 : 1000000000 * v1 ≤ q * v1 := Nat.mul_le_mul_right _ c
      have h2 : l < 1000000000 := by omega
      exact hc ⟨h2, Or.inl c⟩
  refine ⟨hq, ?_⟩
  have key : q * v2 ≤ l * 1000000000 + p2 := by
    rcases Nat.lt_or_ge l 1000000000 with c | c
    · rcases Nat.lt_or_ge (l * 1000000000 + p2) (q * v2) with d | d
      · exact absurd ⟨c, Or.inr d⟩ hc
      · exact d
    · have := mul_bd hq hv2
      omega
  have k1 : q * (v1 * 1000000000 + v2) ≤ (p0 * 1000000000 + p1) * 1000000000 + p2 := by
    rw [Nat.mul_add, ← Nat.mul_assoc]; omega
  obtain ⟨T, hT⟩ : ∃ T, T = (p0 * 1000000000 + p1) * 1000000000 + p2 := ⟨_, rfl⟩
  rw [← hT] at k1 ⊢
  clear hT h hv key
  have hpos : 0 < (v1 * 1000000000 + v2) * W + vl := by
    have : 1 * W ≤ (v1 * 1000000000 + v2) * W := Nat.mul_le_mul_right _ (by omega)
    omega
  have k2 : (q - 1) * ((v1 * 1000000000 + v2) * W + vl) ≤ T * W + pl := by
    rcases Nat.eq_zero_or_pos q with c | c
    · subst c; simp
    · obtain ⟨r, rfl⟩ : ∃ r, q = r + 1 := ⟨q - 1, by omega⟩
      rw [Nat.add_sub_cancel]
      have k3 : (r + 1) * (v1 * 1000000000 + v2) * W ≤ T * W := Nat.mul_le_mul_right _ k1
      have k4 : (r + 1) * vl ≤ 1000000000 * W := Nat.mul_le_mul (by omega) (by omega)
      have k5 : 1000000000 * W ≤ (v1 * 1000000000 + v2) * W := Nat.mul_le_mul_right _ (by omega)
      have k6 : (r + 1) * ((v1 * 1000000000 + v2) * W + vl) = (r + 1) * (v1 * 1000000000 + v2) * W + (r + 1) * vl := by rw [Nat.mul_add, Nat.mul_assoc]
      have k7 : (r + 1) * ((v1 * 1000000000 + v2) * W + vl) = r * ((v1 * 1000000000 + v2) * W + vl) + ((v1 * 1000000000 + v2) * W + vl) := by rw [Nat.add_mul, Nat.one_mul]
      omega
  have := (Nat.le_div_iff_mul_le hpos).2 k2
  omega

/-! scaling -/
theorem scale_ge {t : Nat} (h1 : 1 ≤ t) (h2 : t < 1000000000) : 500000000 ≤ 1000000000 / (t + 1) * t := by
  have hd := Nat.div_add_mod 1000000000 (t + 1)
  have hm := Nat.mod_lt 1000000000 (show 0 < t + 1 by omega)
  generalize 1000000000 / (t + 1) = d at *
  generalize 1000000000 % (t + 1) = r at *
  rw [Nat.add_mul, Nat.one_mul, Nat.mul_comm t d] at hd
  rcases Nat.lt_or_ge (d * t) 500000000 with c | c
  · exfalso
    have k1 : 500000001 ≤ d + t := by omega
    rcases Nat.lt_or_ge t 500000001 with e | e
    · have k2 : (500000001 - t) * t ≤ d * t := Nat.mul_le_mul_right _ (by omega)
      obtain ⟨s, rfl⟩ : ∃ s, t = s + 1 := ⟨t - 1, by omega⟩
      have k3 : 500000000 ≤ (500000001 - (s + 1)) * (s + 1) := by
        rw [Nat.mul_add, Nat.mul_one]
        obtain ⟨u, hu⟩ : ∃ u, 500000001 - (s + 1) = u := ⟨_, rfl⟩
        rw [hu]
        have : u + s = 500000000 := by omega
        rcases Nat.eq_zero_or_pos u with z | z
        · omega
        · have : 1 * s ≤ u * s := Nat.mul_le_mul_right _ z
          omega
      omega
    · rcases Nat.eq_zero_or_pos d with z | z
      · subst z; omega
      · have : 1 * t ≤ d * t := Nat.mul_le_mul_right _ z
        omega
  · exact c

/-! the rounds -/
structure LgI (R Q : Nat → Nat) (N M U V k : Nat) : Prop where
  lim : ∀ t, t < N → R t < 1000000000
  qlim : ∀ t, k ≤ t → t < M → Q t < 1000000000
  rest : lv (sh R k) (N - k) < V
  val : U = lv R N + V * (1000000000 ^ k * lv (sh Q k) (M - k))

theorem high_zero {h : Nat → Nat} {m n : Nat} (hl : lv h m < 1000000000 ^ n) : ∀ t, n ≤ t → t < m → h t = 0 := by
  intro t ht hm
  rcases Nat.eq_zero_or_pos (h t) with c | c
  · exact c
  · exfalso
    have h1 := lv_hi (f := h) (n := t) (by omega)
    have h2 : lv h (t + 1) ≤ lv h m := by
      obtain ⟨d, rfl⟩ : ∃ d, m = (t + 1) + d := ⟨m - (t + 1), by omega⟩
      rw [lv_split h (t + 1) d]; omega
    have h3 : 1000000000 ^ n ≤ 1000000000 ^ t := Nat.pow_le_pow_right (by omega) ht
    omega

/-- what a round meets: the part is what is left from here on, and below base times V -/
theorem LgI.part {R Q : Nat → Nat} {N M U V i n : Nat} (h : LgI R Q N M U V (i + 1)) (hV : V < 1000000000 ^ n) (hN : i + n + 1 ≤ N) :
    lv (sh R i) (N - i) = lv (sh R i) (n + 1) ∧ lv (sh R i) (n + 1) < 1000000000 * V ∧ lv (sh R (i + 1)) n < V := by
  have hz := high_zero (Nat.lt_trans h.rest hV)
  have e1 : lv (sh R (i + 1)) (N - (i + 1)) = lv (sh R (i + 1)) n := lv_cut (by omega) (fun t a b => hz t a b)
  have hr := h.rest
  rw [e1] at hr
  have hl := h.lim i (by omega)
  refine ⟨?_, ?_, hr⟩
  · rw [show N - i = (N - (i + 1)) + 1 by omega, sh_cons, sh_cons, e1]
  · rw [sh_cons]; omega

theorem LgI.step {R S Q : Nat → Nat} {N M U V i n : Nat} (h : LgI R Q N M U V (i + 1)) (hV0 : 0 < V) (hV : V < 1000000000 ^ n) (hN : i + n + 1 ≤ N) (hM : i < M)
    (hS : ∀ t, t < N → S t < 1000000000) (ho : ∀ t, t < i ∨ i + (n + 1) ≤ t → S t = R t) (hv : lv (sh S i) (n + 1) = lv (sh R i) (n + 1) % V) :
    LgI S (up Q i (lv (sh R i) (n + 1) / V)) N M U V i := by
  obtain ⟨p1, p2, p3⟩ := h.part hV hN
  have hq : lv (sh R i) (n + 1) / V < 1000000000 := by rw [Nat.div_lt_iff_lt_mul hV0]; exact p2
  have hz := high_zero (Nat.lt_trans h.rest hV)
  have e0 : lv (sh S i) (N - i) = lv (sh S i) (n + 1) := lv_cut (by omega) (fun t a b => by
    show S (i + t) = 0
    rw [ho (i + t) (by omega)]
    have := hz (t - 1) (by omega) (by omega)
    unfold sh at this
    rw [← this]; congr 1; omega)
  refine ⟨hS, fun t a b => ?_, ?_, ?_⟩
  · by_cases e : t = i
    · subst e; rw [up_same]; exact hq
    · rw [up_other _ _ e]; exact h.qlim t (by omega) b
  · rw [e0, hv]; exact Nat.mod_lt _ hV0
  · have hval := h.val
    have e1 : lv R N = lv R i + 1000000000 ^ i * lv (sh R i) (n + 1) := by
      have := lv_split R i (N - i)
      rw [show i + (N - i) = N by omega, p1] at this
      exact this
    have e2 : lv S N = lv R i + 1000000000 ^ i * (lv (sh R i) (n + 1) % V) := by
      have := lv_split S i (N - i)
      rw [show i + (N - i) = N by omega, e0, hv] at this
      rw [this]
      congr 1
      exact lv_congr fun t ht => ho t (by omega)
    have e3 : lv (sh (up Q i (lv (sh R i) (n + 1) / V)) i) (M - i) = lv (sh R i) (n + 1) / V + 1000000000 * lv (sh Q (i + 1)) (M - (i + 1)) := by
      rw [show M - i = (M - (i + 1)) + 1 by omega, sh_cons, up_same]
      congr 2
      exact lv_congr fun t ht => by unfold sh; rw [up_other _ _ (by omega)]
    rw [e3, e2]
    rw [e1, Nat.pow_succ] at hval
    generalize lv (sh R i) (n + 1) = P at *
    generalize 1000000000 ^ i = W at *
    generalize lv (sh Q (i + 1)) (M - (i + 1)) = K at *
    have hdm := Nat.div_add_mod P V
    have k1 : W * P = W * (V * (P / V) + P % V) := by rw [hdm]
    have k2 : V * (W * (P / V + 1000000000 * K)) = W * (V * (P / V)) + V * (W * 1000000000 * K) := by
      rw [Nat.mul_add, Nat.mul_add, Nat.mul_left_comm V W, Nat.mul_assoc W 1000000000 K]
    rw [Nat.mul_add] at k1
    omega

theorem LgI.done {R Q : Nat → Nat} {N M f g d : Nat} (h : LgI R Q N M (f * d) (g * d) 0) (hd : 0 < d) : lv Q M = f / g ∧ lv R N / d = f % g := by
  have hr := h.rest
  have hv := h.val
  rw [sh_zero, Nat.sub_zero] at hr
  rw [sh_zero, Nat.sub_zero, Nat.pow_zero, Nat.one_mul] at hv
  generalize lv R N = r at *
  generalize lv Q M = q at *
  have hdvd : d ∣ r := by
    have h1 : d ∣ f * d := Nat.dvd_mul_left _ _
    have h2 : d ∣ g * d * q := Nat.dvd_mul_right_of_dvd (Nat.dvd_mul_left _ _) _
    rw [hv] at h1
    exact (Nat.dvd_add_left h2).1 h1
  obtain ⟨s, rfl⟩ := hdvd
  have hs : s < g := by
    rw [Nat.mul_comm] at hr
    exact Nat.lt_of_mul_lt_mul_right hr
  have hf : f = s + g * q := by
    have : f * d = (s + g * q) * d := by rw [hv, Nat.add_mul, Nat.mul_comm d s, Nat.mul_right_comm]
    exact Nat.eq_of_mul_eq_mul_right hd this
  rw [hf, Nat.mul_div_cancel_left _ hd]
  exact ⟨by rw [Nat.add_comm, Nat.mul_add_div (by omega), Nat.div_eq_of_lt hs]; omega, by rw [Nat.add_comm, Nat.mul_add_mod, Nat.mod_eq_of_lt hs]⟩
end
end Go.Proofs.YtadgnafafdfioaaGreatDoor.Nm
namespace Go.Proofs.YtadgnafafdfioaaGreatDoor.Nm
section
set_option maxRecDepth 100000

/-- some steps have been taken, an even number; of an odd number the same, with both numbers and all factors changed over -/
structure Ev (x y p r s t X Y : Nat) : Prop where
  ex : X = t * x + r * y
  ey : Y = s * x + p * y
  det : p * t = r * s + 1
  lo : s ≤ y
  hi : y + r + t < x
  s1 : 1 ≤ s
  t1 : 1 ≤ t

theorem ev_step {x y p r s t X Y q : Nat} (ex : X = t * x + r * y) (ey : Y = s * x + p * y) (det : p * t = r * s + 1) (lo : s ≤ y) (hyx : y ≤ x) (hrx : r ≤ x) (hsp : 1 ≤ s ∨ 1 ≤ p) (ht : 1 ≤ t)
    (hy : 0 < y - s) (q1 : (x + p) / (y - s) = q) (q2 : (x - r) / (y + t) = q) :
    Ev y (x - q * y) t s (r + q * t) (p + q * s) Y X ∧ q * y ≤ x := by
  have a1 : q * (y - s) ≤ x + p := by rw [← q1]; exact Nat.div_mul_le_self _ _
  have a2 : x + p < (q + 1) * (y - s) := by
    have := Nat.lt_mul_div_succ (x + p) hy
    rw [q1, Nat.mul_comm] at this; exact this
  have a3 : q * (y + t) ≤ x - r := by rw [← q2]; exact Nat.div_mul_le_self _ _
  rw [Nat.mul_add] at a3
  have hqx : q * y ≤ x := by omega
  have hq : 1 ≤ q := by
    rcases Nat.eq_zero_or_pos q with c | c
    · subst c; omega
    · exact c
  have hqt : 1 * 1 ≤ q * t := Nat.mul_le_mul hq ht
  have e1 : (q + 1) * (y - s) + q * s + s = q * y + y := by
    obtain ⟨z, rfl⟩ : ∃ z, y = z + s := ⟨y - s, by omega⟩
    rw [Nat.add_sub_cancel, Nat.add_mul, Nat.one_mul, Nat.mul_add]; omega
  obtain ⟨v, hv⟩ : ∃ v, x = v + q * y := ⟨x - q * y, by omega⟩
  have hvv : x - q * y = v := by omega
  rw [hvv]
  refine ⟨⟨?_, ?_, ?_, by omega, by omega, by omega, ?_⟩, hqx⟩
  · rw [ey, hv, Nat.mul_add, Nat.add_mul, ← Nat.mul_assoc, Nat.mul_comm q s]; omega
  · rw [ex, hv, Nat.mul_add, Nat.add_mul, ← Nat.mul_assoc, Nat.mul_comm q t]; omega
  · have b1 : t * (p + q * s) = p * t + q * (s * t) := by rw [Nat.mul_add, Nat.mul_comm t p, Nat.mul_left_comm, Nat.mul_comm t s]
    have b2 : s * (r + q * t) = r * s + q * (s * t) := by rw [Nat.mul_add, Nat.mul_comm s r, Nat.mul_left_comm]
    rw [b1, b2, det]; omega
  · rcases hsp with c | c
    · have : 1 * 1 ≤ q * s := Nat.mul_le_mul hq c
      omega
    · omega

theorem sq_lt {t x : Nat} (h : t * x < 1000000000000000000) (hx : t < x) : t < 1000000000 := by
  rcases Nat.lt_or_ge t 1000000000 with c | c
  · exact c
  · exfalso
    have : 1000000000 * 1000000000 ≤ t * x := Nat.mul_le_mul c (by omega)
    omega

theorem Ev.bounds {x y p r s t X Y : Nat} (h : Ev x y p r s t X Y) (hX : X < 1000000000000000000) (hY : Y < 1000000000000000000) : s < 1000000000 ∧ t < 1000000000 ∧ x < 1000000000000000000 ∧ y < x := by
  have h1 := h.ex
  have h2 := h.ey
  have h3 := h.lo
  have h4 := h.hi
  have h5 : 1 * x ≤ t * x := Nat.mul_le_mul_right _ h.t1
  exact ⟨sq_lt (x := x) (by omega) (by omega), sq_lt (x := x) (by omega) (by omega), by omega, by omega⟩

theorem Ev.fin {x y p r s t X Y E α β : Nat} (h : Ev x y p r s t X Y) (hα : α < E) (hβ : β < E) :
    ∃ U V, p * (X * E + α) = U + r * (Y * E + β) ∧ t * (Y * E + β) = V + s * (X * E + α) ∧ V < U ∧ X * E + α = t * U + r * V ∧ Y * E + β = s * U + p * V := by
  have hd := h.det
  have hlo := h.lo
  have hhi := h.hi
  have e1 : p * X = r * Y + x := by
    have k : p * (t * x) = (r * s + 1) * x := by rw [← Nat.mul_assoc, hd]
    rw [h.ex, h.ey, Nat.mul_add, Nat.mul_add, k, Nat.add_mul, Nat.one_mul, Nat.mul_assoc r s x, Nat.mul_left_comm p r y]; omega
  have e2 : t * Y = s * X + y := by
    have k : t * (p * y) = (r * s + 1) * y := by rw [← Nat.mul_assoc, Nat.mul_comm t p, hd]
    rw [h.ex, h.ey, Nat.mul_add, Nat.mul_add, k, Nat.add_mul, Nat.one_mul, Nat.mul_comm r s, Nat.mul_assoc s r y, Nat.mul_left_comm t s x]; omega
  have b1 : r * β ≤ r * E := Nat.mul_le_mul_left _ (by omega)
  have b2 : s * α ≤ s * E := Nat.mul_le_mul_left _ (by omega)
  have b3 : t * β ≤ t * E := Nat.mul_le_mul_left _ (by omega)
  have b4 : s * E ≤ y * E := Nat.mul_le_mul_right _ hlo
  have b5 : (y + r + t + 1) * E ≤ x * E := Nat.mul_le_mul_right _ hhi
  rw [Nat.add_mul, Nat.add_mul, Nat.add_mul, Nat.one_mul] at b5
  have c1 : p * (X * E + α) = r * Y * E + x * E + p * α := by rw [Nat.mul_add, ← Nat.mul_assoc, e1, Nat.add_mul]
  have c2 : r * (Y * E + β) = r * Y * E + r * β := by rw [Nat.mul_add, ← Nat.mul_assoc]
  have c3 : t * (Y * E + β) = s * X * E + y * E + t * β := by rw [Nat.mul_add, ← Nat.mul_assoc, e2, Nat.add_mul]
  have c4 : s * (X * E + α) = s * X * E + s * α := by rw [Nat.mul_add, ← Nat.mul_assoc]
  have hU : p * (X * E + α) = (x * E + p * α - r * β) + r * (Y * E + β) := by rw [c1, c2]; omega
  have hV : t * (Y * E + β) = (y * E + t * β - s * α) + s * (X * E + α) := by rw [c3, c4]; omega
  have hlt : y * E + t * β - s * α < x * E + p * α - r * β := by omega
  generalize x * E + p * α - r * β = U at *
  generalize y * E + t * β - s * α = V at *
  generalize X * E + α = M at *
  generalize Y * E + β = N at *
  refine ⟨U, V, hU, hV, hlt, ?_, ?_⟩
  · have k1 : t * (p * M) = t * (U + r * N) := by rw [hU]
    have k2 : r * (t * N) = r * (V + s * M) := by rw [hV]
    have k3 : t * (p * M) = r * (s * M) + M := by rw [← Nat.mul_assoc, Nat.mul_comm t p, hd, Nat.add_mul, Nat.one_mul, Nat.mul_assoc]
    have k4 : t * (r * N) = r * (t * N) := Nat.mul_left_comm _ _ _
    rw [Nat.mul_add] at k1 k2
    omega
  · have k1 : s * (p * M) = s * (U + r * N) := by rw [hU]
    have k2 : p * (t * N) = p * (V + s * M) := by rw [hV]
    have k3 : p * (t * N) = s * (r * N) + N := by rw [← Nat.mul_assoc, hd, Nat.add_mul, Nat.one_mul, Nat.mul_comm r s, Nat.mul_assoc]
    have k4 : s * (p * M) = p * (s * M) := Nat.mul_left_comm _ _ _
    rw [Nat.mul_add] at k1 k2
    omega

theorem gcd_mix {M N U V p r s t : Nat} (h1 : p * M = U + r * N) (h2 : t * N = V + s * M) (h3 : M = t * U + r * V) (h4 : N = s * U + p * V) : Nat.gcd U V = Nat.gcd M N := by
  apply Nat.dvd_antisymm
  · apply Nat.dvd_gcd
    · rw [h3]; exact Nat.dvd_add (Nat.dvd_mul_left_of_dvd (Nat.gcd_dvd_left _ _) _) (Nat.dvd_mul_left_of_dvd (Nat.gcd_dvd_right _ _) _)
    · rw [h4]; exact Nat.dvd_add (Nat.dvd_mul_left_of_dvd (Nat.gcd_dvd_left _ _) _) (Nat.dvd_mul_left_of_dvd (Nat.gcd_dvd_right _ _) _)
  · apply Nat.dvd_gcd
    · have k : Nat.gcd M N ∣ U + r * N := by rw [← h1]; exact Nat.dvd_mul_left_of_dvd (Nat.gcd_dvd_left _ _) _
      exact (Nat.dvd_add_left (Nat.dvd_mul_left_of_dvd (Nat.gcd_dvd_right _ _) _)).1 k
    · have k : Nat.gcd M N ∣ V + s * M := by rw [← h2]; exact Nat.dvd_mul_left_of_dvd (Nat.gcd_dvd_right _ _) _
      exact (Nat.dvd_add_left (Nat.dvd_mul_left_of_dvd (Nat.gcd_dvd_left _ _) _)).1 k

/-! the leading digits -/
theorem lead_form {l1 l2 l3 sc D W low : Nat} (hD : sc * D = 1000000000) (hD0 : 0 < D) (hl : low < W) :
    ∃ α, ((l1 * 1000000000 + l2) * 1000000000 + l3) * W + low = ((l1 * 1000000000 + l2) * sc + l3 / D) * (D * W) + α ∧ α < D * W := by
  refine ⟨l3 % D * W + low, ?_, ?_⟩
  · have h := Nat.div_add_mod l3 D
    have e1 : ((l1 * 1000000000 + l2) * sc + l3 / D) * (D * W) = (l1 * 1000000000 + l2) * 1000000000 * W + l3 / D * D * W := by
      rw [Nat.add_mul, ← Nat.mul_assoc, ← Nat.mul_assoc, Nat.mul_assoc _ sc D, hD]
    rw [e1, Nat.add_mul _ l3 W]
    have e2 : l3 * W = (D * (l3 / D) + l3 % D) * W := by rw [h]
    rw [Nat.add_mul, Nat.mul_comm D (l3 / D)] at e2
    omega
  · have h := Nat.mod_lt l3 hD0
    have : (l3 % D + 1) * W ≤ D * W := Nat.mul_le_mul_right _ h
    rw [Nat.add_mul, Nat.one_mul] at this
    omega

theorem lead_lt {l1 l2 l3 sc D : Nat} (hD : sc * D = 1000000000) (hD0 : 0 < D) (h1 : l1 < D) (h2 : l2 < 1000000000) (h3 : l3 < 1000000000) : (l1 * 1000000000 + l2) * sc + l3 / D < 1000000000000000000 := by
  have a1 : l3 / D < sc := by rw [Nat.div_lt_iff_lt_mul hD0, hD]; exact h3
  have a2 : (l1 * 1000000000 + l2 + 1) * sc ≤ ((l1 + 1) * 1000000000) * sc := Nat.mul_le_mul_right _ (by omega)
  have a3 : (l1 + 1) * sc ≤ D * sc := Nat.mul_le_mul_right _ h1
  rw [Nat.mul_comm D sc, hD] at a3
  have a4 : (l1 + 1) * 1000000000 * sc = (l1 + 1) * sc * 1000000000 := Nat.mul_right_comm _ _ _
  rw [Nat.add_mul _ 1 sc, Nat.one_mul] at a2
  omega

/-! a mixture of two rows, limb by limb -/
def lvz (f : Nat → Nat) (n : Nat) : Int := (lv f n : Nat)

structure MxI (S F G : Nat → Nat) (u v : Int) (k : Nat) (c : Int) : Prop where
  lim : ∀ i, i < k → S i < 1000000000
  clo : -1000000000 ≤ c
  chi : c ≤ 1000000000
  val : (lv S k : Int) + c * ((1000000000 ^ k : Nat) : Int) = u * (lv F k : Int) + v * (lv G k : Int)

theorem MxI.step {S F G : Nat → Nat} {u v c : Int} {k : Nat} (h : MxI S F G u v k c) (hlo : -999999999000000000 ≤ u * (F k : Int) + v * (G k : Int)) (hhi : u * (F k : Int) + v * (G k : Int) ≤ 999999999000000000) :
    ∃ l : Nat, (u * (F k : Int) + v * (G k : Int) + c) % 1000000000 = (l : Int) ∧ l < 1000000000 ∧ MxI (up S k l) F G u v (k + 1) ((u * (F k : Int) + v * (G k : Int) + c) / 1000000000) := by
  have c1 := h.clo
  have c2 := h.chi
  refine ⟨((u * (F k : Int) + v * (G k : Int) + c) % 1000000000).toNat, by omega, by omega, ⟨fun i hi => ?_, by omega, by omega, ?_⟩⟩
  · by_cases e : i = k
    · subst e; rw [up_same]; omega
    · rw [up_other _ _ e]; exact h.lim i (by omega)
  · have hv := h.val
    rw [lv_succ, lv_succ, lv_succ, up_same, lv_up (Nat.le_refl _), Nat.pow_succ]
    simp only [Int.natCast_add, Int.natCast_mul]
    have ht : ((u * (F k : Int) + v * (G k : Int) + c) % 1000000000).toNat = (u * (F k : Int) + v * (G k : Int) + c) % 1000000000 := by omega
    rw [ht]
    have hdm := Int.mul_ediv_add_emod (u * (F k : Int) + v * (G k : Int) + c) 1000000000
    generalize (u * (F k : Int) + v * (G k : Int) + c) % 1000000000 = l at *
    generalize (u * (F k : Int) + v * (G k : Int) + c) / 1000000000 = d at *
    generalize ((1000000000 ^ k : Nat) : Int) = P at *
    generalize (lv S k : Int) = a1 at *
    generalize (lv F k : Int) = a2 at *
    generalize (lv G k : Int) = a3 at *
    have k1 : (1000000000 * d + l) * P = (u * (F k : Int) + v * (G k : Int) + c) * P := by rw [hdm]
    have k2 : d * (P * ((1000000000 : Nat) : Int)) = 1000000000 * d * P := by
      rw [Int.mul_comm P, ← Int.mul_assoc, Int.mul_comm d]; rfl
    rw [Int.add_mul, Int.add_mul, Int.add_mul] at k1
    rw [Int.mul_add, Int.mul_add, k2, ← Int.mul_assoc, ← Int.mul_assoc]
    omega

theorem MxI.done {S F G : Nat → Nat} {u v c : Int} {n R : Nat} (h : MxI S F G u v n c) (hR : R < 1000000000 ^ n) (e : u * (lv F n : Int) + v * (lv G n : Int) = (R : Int)) : lv S n = R := by
  have hv := h.val
  rw [e] at hv
  have hl := lv_lt h.lim
  generalize lv S n = s at *
  generalize 1000000000 ^ n = P at *
  rcases Int.lt_trichotomy c 0 with d | d | d
  · exfalso
    have : c * (P : Int) ≤ (-1) * (P : Int) := Int.mul_le_mul_of_nonneg_right (by omega) (by omega)
    omega
  · subst d; omega
  · exfalso
    have : 1 * (P : Int) ≤ c * (P : Int) := Int.mul_le_mul_of_nonneg_right (by omega) (by omega)
    omega
end
end Go.Proofs.YtadgnafafdfioaaGreatDoor.Nm
namespace Go.Proofs.YtadgnafafdfioaaGreatDoor.Nm
section
set_option maxRecDepth 100000

/-- the value of n digits, the lowest first -/
def dl (f : Nat → Nat) : Nat → Nat
  | 0 => 0
  | n + 1 => dl f n + f n * 10 ^ n

theorem dl_zero (f : Nat → Nat) : dl f 0 = 0 := rfl
theorem dl_succ (f : Nat → Nat) (n : Nat) : dl f (n + 1) = dl f n + f n * 10 ^ n := rfl

theorem dl_congr {f g : Nat → Nat} {n : Nat} (h : ∀ i, i < n → f i = g i) : dl f n = dl g n := by
  induction n with
  | zero => rfl
  | succ n ih => simp only [dl]; rw [ih (fun i hi => h i (by omega)), h n (by omega)]

theorem dl_up {f : Nat → Nat} {n j v : Nat} (h : n ≤ j) : dl (up f j v) n = dl f n :=
  dl_congr fun _ hi => up_other f v (by omega)

theorem dl_cut {f : Nat → Nat} {n m : Nat} (hm : m ≤ n) (h : ∀ i, m ≤ i → i < n → f i = 0) : dl f n = dl f m := by
  induction n with
  | zero => have : m = 0 := by omega
            subst this; rfl
  | succ n ih =>
    by_cases e : m = n + 1
    · subst e; rfl
    · rw [dl_succ, h n (by omega) (by omega), ih (by omega) (fun i a b => h i a (by omega))]; omega

theorem dl_lt {f : Nat → Nat} {n : Nat} (h : ∀ i, i < n → f i < 10) : dl f n < 10 ^ n := by
  induction n with
  | zero => simp [dl]
  | succ n ih =>
    have h1 := ih (fun i hi => h i (by omega))
    have h3 : f n * 10 ^ n ≤ 9 * 10 ^ n := Nat.mul_le_mul_right _ (by have := h n (by omega); omega)
    rw [dl_succ, Nat.pow_succ]; omega

/-- the i-th digit of a text from the right, 0 beyond -/
def dg (l : List UInt8) (i : Nat) : Nat := if i < l.length then (l.getD (l.length - 1 - i) 0).toNat - 48 else 0

theorem dg_lt {l : List UInt8} (h : Dg l) (i : Nat) : dg l i < 10 := by
  unfold dg
  split
  · rename_i c
    have h2 : l.length - 1 - i < l.length := by omega
    have e : l.getD (l.length - 1 - i) 0 = l[l.length - 1 - i] := by simp [List.getD, h2]
    have : l.getD (l.length - 1 - i) 0 ∈ l := by
      rw [e]; exact List.getElem_mem _
    have := h _ this
    omega
  · omega

theorem dl_dg (l : List UInt8) : ∀ n, l.length ≤ n → dl (dg l) n = dv l := by
  have key : ∀ l : List UInt8, dl (dg l) l.length = dv l := by
    intro l
    induction l with
    | nil => rfl
    | cons c l ih =>
      rw [List.length_cons, dl_succ, dv_cons]
      have e1 : dl (dg (c :: l)) l.length = dl (dg l) l.length := dl_congr fun i hi => by
        unfold dg
        rw [List.length_cons, if_pos (by omega), if_pos hi, show l.length + 1 - 1 - i = (l.length - 1 - i) + 1 by omega, List.getD_cons_succ]
      have e2 : dg (c :: l) l.length = c.toNat - 48 := by
        unfold dg
        rw [List.length_cons, if_pos (by omega), show l.length + 1 - 1 - l.length = 0 by omega, List.getD_cons_zero]
      rw [e1, e2, ih]; omega
  intro n hn
  rw [dl_cut hn (fun i a b => by unfold dg; rw [if_neg (by omega)])]
  exact key l

/-- digits, the highest first, as a text -/
def rv (f : Nat → Nat) (n : Nat) : List UInt8 := (List.range n).map fun i => UInt8.ofNat (48 + f (n - 1 - i))

theorem rv_dg {f : Nat → Nat} {n : Nat} (h : ∀ i, i < n → f i < 10) : Dg (rv f n) := by
  intro c hc
  unfold rv at hc
  obtain ⟨i, hi, rfl⟩ := List.mem_map.1 hc
  have := h (n - 1 - i) (by simp at hi; omega)
  rw [toNat_dig this]; omega

theorem rv_succ (f : Nat → Nat) (n : Nat) : rv f (n + 1) = UInt8.ofNat (48 + f n) :: rv f n := by
  unfold rv
  rw [List.range_succ_eq_map, List.map_cons, List.map_map]
  congr 1
  apply List.map_congr_left
  intro i _
  simp only [Function.comp]
  congr 3
  omega

theorem rv_len (f : Nat → Nat) (n : Nat) : (rv f n).length = n := by simp [rv]

theorem dv_rv {f : Nat → Nat} {n : Nat} (h : ∀ i, i < n → f i < 10) : dv (rv f n) = dl f n := by
  induction n with
  | zero => rfl
  | succ n ih =>
    rw [rv_succ, dv_cons, rv_len, toNat_dig (h n (by omega)), ih (fun i hi => h i (by omega)), dl_succ, Nat.add_sub_cancel_left]
    omega

/-- a step of a sum, of a digit and a carry -/
theorem carry10 (x t P : Nat) : x + t % 10 * P + t / 10 * (P * 10) = x + t * P := by
  have h := Nat.div_add_mod t 10
  have : t * P = (10 * (t / 10) + t % 10) * P := by rw [h]
  rw [this, Nat.add_mul, Nat.mul_comm P 10, ← Nat.mul_assoc, Nat.mul_comm (t / 10) 10]
  omega

structure Add10 (o f g : Nat → Nat) (k c : Nat) : Prop where
  lim : ∀ i, i < k → o i < 10
  car : c ≤ 1
  val : dl o k + c * 10 ^ k = dl f k + dl g k

theorem Add10.step {o f g : Nat → Nat} {k c : Nat} (h : Add10 o f g k c) (hf : f k < 10) (hg : g k < 10) : Add10 (up o k ((c + (f k + g k)) % 10)) f g (k + 1) ((c + (f k + g k)) / 10) := by
  have hc := h.car
  refine ⟨fun i hi => ?_, by omega, ?_⟩
  · by_cases e : i = k
    · subst e; rw [up_same]; omega
    · rw [up_other _ _ e]; exact h.lim i (by omega)
  · rw [dl_succ, dl_succ, dl_succ, up_same, dl_up (Nat.le_refl _), Nat.pow_succ, carry10, Nat.add_mul, Nat.add_mul]
    have := h.val
    omega

structure Sub10 (o f g : Nat → Nat) (k c : Nat) : Prop where
  lim : ∀ i, i < k → o i < 10
  car : c ≤ 1
  val : dl o k + dl g k = dl f k + c * 10 ^ k

theorem Sub10.step {o f g : Nat → Nat} {k c l d : Nat} (h : Sub10 o f g k c) (hl : l < 10) (hd : d ≤ 1) (he : l + g k + c = f k + d * 10) : Sub10 (up o k l) f g (k + 1) d := by
  refine ⟨fun i hi => ?_, hd, ?_⟩
  · by_cases e : i = k
    · subst e; rw [up_same]; exact hl
    · rw [up_other _ _ e]; exact h.lim i (by omega)
  · rw [dl_succ, dl_succ, dl_succ, up_same, dl_up (Nat.le_refl _), Nat.pow_succ]
    have h1 := h.val
    have h2 : (l + g k + c) * 10 ^ k = (f k + d * 10) * 10 ^ k := by rw [he]
    rw [Nat.add_mul, Nat.add_mul, Nat.add_mul, Nat.mul_assoc d, Nat.mul_comm 10 (10 ^ k)] at h2
    omega

def sh10 (p : Nat → Nat) (i : Nat) : Nat → Nat := fun t => p (i + t)

theorem dl_split (p : Nat → Nat) (i m : Nat) : dl p (i + m) = dl p i + 10 ^ i * dl (sh10 p i) m := by
  induction m with
  | zero => simp [dl]
  | succ m ih =>
    rw [show i + (m + 1) = (i + m) + 1 by omega, dl_succ, ih, dl_succ, Nat.mul_add, Nat.pow_add]
    have : p (i + m) * (10 ^ i * 10 ^ m) = 10 ^ i * (sh10 p i m * 10 ^ m) := by
      unfold sh10; rw [Nat.mul_left_comm]
    rw [this]; omega

structure Mul10J (p P g : Nat → Nat) (N i j c x : Nat) : Prop where
  lim : ∀ t, t < N → p t < 10
  out : ∀ t, t < i ∨ i + j ≤ t → p t = P t
  car : c < 10
  val : dl (sh10 p i) j + c * 10 ^ j = dl (sh10 P i) j + x * dl g j

theorem mul9 {x y : Nat} (hx : x < 10) (hy : y < 10) : x * y ≤ 81 := by
  have : x * y ≤ 9 * 9 := Nat.mul_le_mul (by omega) (by omega)
  omega

theorem Mul10J.step {p P g : Nat → Nat} {N i j c x : Nat} (h : Mul10J p P g N i j c x) (hN : i + j < N) (hx : x < 10) (hg : g j < 10) :
    Mul10J (up p (i + j) ((c + (p (i + j) + x * g j)) % 10)) P g N i (j + 1) ((c + (p (i + j) + x * g j)) / 10) x := by
  have hb := mul9 hx hg
  have hl := h.lim (i + j) hN
  have hc := h.car
  refine ⟨fun t ht => ?_, fun t ht => ?_, by omega, ?_⟩
  · by_cases e : t = i + j
    · subst e; rw [up_same]; omega
    · rw [up_other _ _ e]; exact h.lim t ht
  · rw [up_other _ _ (by omega)]; exact h.out t (by omega)
  · have e1 : dl (sh10 (up p (i + j) ((c + (p (i + j) + x * g j)) % 10)) i) j = dl (sh10 p i) j := dl_congr fun t ht => by unfold sh10; rw [up_other _ _ (by omega)]
    have e2 : sh10 (up p (i + j) ((c + (p (i + j) + x * g j)) % 10)) i j = (c + (p (i + j) + x * g j)) % 10 := by unfold sh10; rw [up_same]
    have e3 : sh10 P i j = p (i + j) := by unfold sh10; exact (h.out (i + j) (by omega)).symm
    rw [dl_succ, dl_succ, dl_succ, e1, e2, e3, Nat.pow_succ, carry10, Nat.add_mul, Nat.add_mul, Nat.mul_add, Nat.mul_assoc x]
    have := h.val
    omega

theorem Mul10J.start {P g : Nat → Nat} {N i x : Nat} (hP : ∀ t, t < N → P t < 10) : Mul10J P P g N i 0 0 x :=
  ⟨hP, fun _ _ => rfl, by omega, by simp [dl]⟩

structure Mul10 (p f : Nat → Nat) (N m G i : Nat) : Prop where
  lim : ∀ t, t < N → p t < 10
  out : ∀ t, i + m ≤ t → t < N → p t = 0
  val : dl p (i + m) = dl f i * G

theorem Mul10.step {p P f g : Nat → Nat} {N m i c : Nat} (h : Mul10 P f N m (dl g m) i) (k : Mul10J p P g N i m c (f i)) : Mul10 (up p (i + m) c) f N m (dl g m) (i + 1) := by
  refine ⟨fun t ht => ?_, fun t a b => ?_, ?_⟩
  · by_cases e : t = i + m
    · subst e; rw [up_same]; exact k.car
    · rw [up_other _ _ e]; exact k.lim t ht
  · rw [up_other _ _ (by omega), k.out t (by omega)]; exact h.out t (by omega) b
  · have h1 := h.val
    have h2 := k.val
    rw [show i + 1 + m = (i + m) + 1 by omega, dl_succ, up_same, dl_up (Nat.le_refl _), dl_split, dl_succ, Nat.add_mul, ← h1, dl_split]
    have e1 : dl p i = dl P i := dl_congr fun t ht => k.out t (by omega)
    have e2 : f i * 10 ^ i * dl g m = 10 ^ i * (f i * dl g m) := by rw [Nat.mul_comm (f i), Nat.mul_assoc]
    have e3 : c * 10 ^ (i + m) = 10 ^ i * (c * 10 ^ m) := by rw [Nat.pow_add, Nat.mul_left_comm]
    have e4 : 10 ^ i * dl (sh10 p i) m + 10 ^ i * (c * 10 ^ m) = 10 ^ i * dl (sh10 P i) m + 10 ^ i * (f i * dl g m) := by rw [← Nat.mul_add, ← Nat.mul_add, h2]
    rw [e1, e2, e3]
    omega

theorem dl_none : ∀ n, dl (fun _ => 0) n = 0 := fun n => by
  induction n with
  | zero => rfl
  | succ n ih => rw [dl_succ, ih]; omega

theorem Mul10.start {f : Nat → Nat} {N m G : Nat} : Mul10 (fun _ => 0) f N m G 0 :=
  ⟨fun t _ => by omega, fun t _ _ => rfl, by rw [dl_none]; simp [dl]⟩
end
end Go.Proofs.YtadgnafafdfioaaGreatDoor.Nm
