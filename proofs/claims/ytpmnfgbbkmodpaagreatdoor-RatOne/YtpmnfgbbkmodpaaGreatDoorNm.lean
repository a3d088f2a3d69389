/-
  PLAIN FACTS ON NUMBERS, LIMBS AND DECIMAL TEXTS: nothing of the program is named here. No conditions.
-/
namespace Go.Proofs.YtpmnfgbbkmodpaaGreatDoor.Nm
set_option maxRecDepth 100000

/-- the value of n limbs, the lowest first -/
def lv (f : Nat → Nat) : Nat → Nat
  | 0 => 0
  | n + 1 => lv f n + f n * 1000000000 ^ n

/-- one place turned -/
def up (f : Nat → Nat) (j v : Nat) : Nat → Nat := fun i => if i = j then v else f i

theorem up_same (f : Nat → Nat) (j v : Nat) : up f j v j = v := by simp [up]
theorem up_other (f : Nat → Nat) {j i : Nat} (v : Nat) (h : i ≠ j) : up f j v i = f i := by simp [up, h]

theorem lv_congr {f g : Nat → Nat} {n : Nat} (h : ∀ i, i < n → f i = g i) : lv f n = lv g n := by
  induction n with
  | zero => rfl
  | succ n ih => simp only [lv]; rw [ih (fun i hi => h i (by omega)), h n (by omega)]

theorem lv_up {f : Nat → Nat} {n j v : Nat} (h : n ≤ j) : lv (up f j v) n = lv f n :=
  lv_congr fun _ hi => up_other f v (by omega)

theorem lv_zero (f : Nat → Nat) : lv f 0 = 0 := rfl
theorem lv_succ (f : Nat → Nat) (n : Nat) : lv f (n + 1) = lv f n + f n * 1000000000 ^ n := rfl

theorem pos10 (n : Nat) : 0 < 10 ^ n := Nat.pow_pos (by omega)
theorem posB (n : Nat) : 0 < 1000000000 ^ n := Nat.pow_pos (by omega)

theorem lv_lt {f : Nat → Nat} {n : Nat} (h : ∀ i, i < n → f i < 1000000000) : lv f n < 1000000000 ^ n := by
  induction n with
  | zero => simp [lv]
  | succ n ih =>
    have h1 := ih (fun i hi => h i (by omega))
    have h2 := h n (by omega)
    have h3 : f n * 1000000000 ^ n ≤ 999999999 * 1000000000 ^ n := Nat.mul_le_mul_right _ (by omega)
    rw [lv_succ, Nat.pow_succ]
    omega

theorem lv_hi {f : Nat → Nat} {n : Nat} (h : f n ≠ 0) : 1000000000 ^ n ≤ lv f (n + 1) := by
  rw [lv_succ]
  have : 1 * 1000000000 ^ n ≤ f n * 1000000000 ^ n := Nat.mul_le_mul_right _ (by omega)
  omega

/-- what stands above does not count if it is 0 -/
theorem lv_cut {f : Nat → Nat} {n m : Nat} (hm : m ≤ n) (h : ∀ i, m ≤ i → i < n → f i = 0) : lv f n = lv f m := by
  induction n with
  | zero => have : m = 0 := by omega
            subst this; rfl
  | succ n ih =>
    by_cases e : m = n + 1
    · subst e; rfl
    · rw [lv_succ, h n (by omega) (by omega), ih (by omega) (fun i a b => h i a (by omega))]; omega

/-- the form of limbs -/
def Nrm (f : Nat → Nat) (n : Nat) : Prop := (∀ i, i < n → f i < 1000000000) ∧ (n = 0 ∨ f (n - 1) ≠ 0)

theorem Nrm.hi {f : Nat → Nat} {n : Nat} (h : Nrm f n) (hn : 0 < n) : 1000000000 ^ (n - 1) ≤ lv f n := by
  obtain ⟨m, rfl⟩ : ∃ m, n = m + 1 := ⟨n - 1, by omega⟩
  rcases h.2 with e | e
  · omega
  · exact lv_hi (by simpa using e)

theorem Nrm.lt {f : Nat → Nat} {n : Nat} (h : Nrm f n) : lv f n < 1000000000 ^ n := lv_lt h.1

theorem Nrm.len_le {f g : Nat → Nat} {n m : Nat} (h : Nrm f n) (k : Nrm g m) (e : lv f n ≤ lv g m) : n ≤ m := by
  rcases Nat.lt_or_ge m n with c | c
  · exfalso
    have h1 := h.hi (by omega)
    have h2 := k.lt
    have h3 : 1000000000 ^ m ≤ 1000000000 ^ (n - 1) := Nat.pow_le_pow_right (by omega) (by omega)
    omega
  · exact c

theorem Nrm.zero_iff {f : Nat → Nat} {n : Nat} (h : Nrm f n) : lv f n = 0 ↔ n = 0 := by
  constructor
  · intro e
    rcases Nat.eq_zero_or_pos n with c | c
    · exact c
    · have := h.hi c; have := posB (n - 1); omega
  · rintro rfl; rfl

/-! decimal texts -/
def dv (l : List UInt8) : Nat := l.foldl (fun n c => n * 10 + (c.toNat - 48)) 0

theorem dv_nil : dv [] = 0 := rfl
theorem dv_snoc (l : List UInt8) (c : UInt8) : dv (l ++ [c]) = dv l * 10 + (c.toNat - 48) := by simp [dv]

theorem dv_append (l m : List UInt8) : dv (l ++ m) = dv l * 10 ^ m.length + dv m := by
  have key : ∀ (m : List UInt8) (a : Nat), m.foldl (fun n c => n * 10 + (c.toNat - 48)) a = a * 10 ^ m.length + m.foldl (fun n c => n * 10 + (c.toNat - 48)) 0 := by
    intro m
    induction m with
    | nil => intro a; simp
    | cons c m ih =>
      intro a
      simp only [List.foldl_cons, List.length_cons]
      rw [ih, ih (0 * 10 + (c.toNat - 48)), Nat.pow_succ, Nat.add_mul, Nat.zero_mul, Nat.zero_add, Nat.mul_assoc, Nat.mul_comm 10 (10 ^ m.length)]
      omega
  unfold dv
  rw [List.foldl_append, key]

theorem dv_cons (c : UInt8) (l : List UInt8) : dv (c :: l) = (c.toNat - 48) * 10 ^ l.length + dv l := by
  have := dv_append [c] l
  have e : dv [c] = c.toNat - 48 := by simp [dv]
  rw [e] at this
  simpa using this

def Dg (l : List UInt8) : Prop := ∀ c, c ∈ l → 48 ≤ c.toNat ∧ c.toNat ≤ 57

theorem dv_lt {l : List UInt8} (h : Dg l) : dv l < 10 ^ l.length := by
  induction l with
  | nil => simp [dv]
  | cons c l ih =>
    have h1 := ih (fun d hd => h d (by simp [hd]))
    have h2 := h c (by simp)
    have h3 : (c.toNat - 48) * 10 ^ l.length ≤ 9 * 10 ^ l.length := Nat.mul_le_mul_right _ (by omega)
    rw [dv_cons, List.length_cons, Nat.pow_succ]
    omega

theorem dv_ge {c : UInt8} {l : List UInt8} (h : 48 < c.toNat) : 10 ^ l.length ≤ dv (c :: l) := by
  rw [dv_cons]
  have : 1 * 10 ^ l.length ≤ (c.toNat - 48) * 10 ^ l.length := Nat.mul_le_mul_right _ (by omega)
  omega

theorem dv_inj : ∀ {l m : List UInt8}, Dg l → Dg m → l.length = m.length → dv l = dv m → l = m := by
  intro l
  induction l with
  | nil => intro m _ _ hl _; exact (List.length_eq_zero_iff.1 (by simpa using hl.symm)).symm
  | cons c l ih =>
    intro m hc hm hl he
    match m, hl with
    | d :: m, hl =>
      have hl' : l.length = m.length := by simpa using hl
      have a1 := dv_lt (l := l) (fun d hd => hc d (by simp [hd]))
      have a2 := dv_lt (l := m) (fun d hd => hm d (by simp [hd]))
      have b1 := hc c (by simp)
      have b2 := hm d (by simp)
      rw [dv_cons, dv_cons, hl'] at he
      rw [hl'] at a1
      have hp := pos10 m.length
      have e1 : c.toNat - 48 = d.toNat - 48 := by
        have x1 : ((c.toNat - 48) * 10 ^ m.length + dv l) / 10 ^ m.length = c.toNat - 48 := by
          rw [Nat.mul_comm, Nat.mul_add_div hp, Nat.div_eq_of_lt a1]; omega
        have x2 : ((d.toNat - 48) * 10 ^ m.length + dv m) / 10 ^ m.length = d.toNat - 48 := by
          rw [Nat.mul_comm, Nat.mul_add_div hp, Nat.div_eq_of_lt a2]; omega
        rw [← x1, he, x2]
      have e2 : dv l = dv m := by rw [e1] at he; omega
      have e3 : c = d := UInt8.toNat_inj.1 (by omega)
      rw [e3, ih (fun d hd => hc d (by simp [hd])) (fun d hd => hm d (by simp [hd])) hl' e2]

/-- is a text a natural? -/
def rt (l : List UInt8) : Bool := l.all (fun c => decide (48 ≤ c.toNat) && decide (c.toNat ≤ 57)) && (decide (l.length = 1) || (decide (1 < l.length) && decide (l.head? ≠ some 48)))

theorem rt_dg {l : List UInt8} (h : rt l = true) : Dg l := by
  intro c hc
  simp only [rt, Bool.and_eq_true, List.all_eq_true, decide_eq_true_eq] at h
  exact h.1 c hc

theorem rt_iff (l : List UInt8) : rt l = true ↔ Dg l ∧ (l.length = 1 ∨ 1 < l.length ∧ l.head? ≠ some 48) := by
  simp only [rt, Dg, Bool.and_eq_true, List.all_eq_true, decide_eq_true_eq, Bool.or_eq_true]

theorem rt_low {l : List UInt8} (h : rt l = true) (h1 : 1 < l.length) : 10 ^ (l.length - 1) ≤ dv l := by
  obtain ⟨hd, hr⟩ := (rt_iff l).1 h
  match l, h1 with
  | c :: l, h1 =>
    rcases hr with e | ⟨_, e⟩
    · simp only [List.length_cons] at e h1; omega
    · have b := hd c (by simp)
      have hne : c.toNat ≠ 48 := fun x => e (by simp; exact UInt8.toNat_inj.1 (by simpa using x))
      have := dv_ge (c := c) (l := l) (by omega)
      simpa using this

theorem rt_pos {l : List UInt8} (h : rt l = true) : 1 ≤ l.length := by
  obtain ⟨_, hr⟩ := (rt_iff l).1 h
  omega

theorem rt_len_le {l m : List UInt8} (h : rt l = true) (k : rt m = true) (e : dv l ≤ dv m) : l.length ≤ m.length := by
  rcases Nat.lt_or_ge m.length l.length with c | c
  · exfalso
    have := rt_pos k
    have h1 := rt_low h (by omega)
    have h2 := dv_lt (rt_dg k)
    have h3 : 10 ^ m.length ≤ 10 ^ (l.length - 1) := Nat.pow_le_pow_right (by omega) (by omega)
    omega
  · exact c

theorem rt_inj {l m : List UInt8} (h : rt l = true) (k : rt m = true) (e : dv l = dv m) : l = m :=
  dv_inj (rt_dg h) (rt_dg k) (Nat.le_antisymm (rt_len_le h k (by omega)) (rt_len_le k h (by omega))) e

/-- a number's text -/
def ds : Nat → Nat → List UInt8
  | 0, _ => []
  | f + 1, n => if n < 10 then [UInt8.ofNat (48 + n)] else ds f (n / 10) ++ [UInt8.ofNat (48 + n % 10)]
def tx (n : Nat) : List UInt8 := ds (n + 1) n

theorem toNat_dig {n : Nat} (h : n < 10) : (UInt8.ofNat (48 + n)).toNat = 48 + n := by
  simp only [UInt8.toNat_ofNat']; omega

theorem ds_spec : ∀ (f n : Nat), n < f → rt (ds f n) = true ∧ dv (ds f n) = n ∧ (0 < n → (ds f n).head? ≠ some 48) := by
  intro f
  induction f with
  | zero => intro n h; omega
  | succ f ih =>
    intro n h
    simp only [ds]
    by_cases c : n < 10
    · rw [if_pos c]
      have t := toNat_dig c
      refine ⟨?_, ?_, ?_⟩
      · rw [rt_iff]; refine ⟨?_, Or.inl rfl⟩
        intro d hd; simp only [List.mem_singleton] at hd; subst hd; rw [t]; omega
      · simp only [dv, List.foldl_cons, List.foldl_nil, t]; omega
      · intro hn e
        simp only [List.head?_cons, Option.some.injEq] at e
        have : (UInt8.ofNat (48 + n)).toNat = 48 := by rw [e]; rfl
        omega
    · rw [if_neg c]
      obtain ⟨r1, r2, r3⟩ := ih (n / 10) (by omega)
      have t := toNat_dig (n := n % 10) (by omega)
      have hd := r3 (by omega)
      have hp := rt_pos r1
      have hh : (ds f (n / 10) ++ [UInt8.ofNat (48 + n % 10)]).head? ≠ some 48 := by
        match hq : ds f (n / 10), hp with
        | a :: as, _ => rw [hq] at hd; simpa using hd
      refine ⟨?_, ?_, fun _ => hh⟩
      · rw [rt_iff]; refine ⟨?_, Or.inr ⟨by simp; omega, hh⟩⟩
        intro d hd'
        rcases List.mem_append.1 hd' with x | x
        · exact rt_dg r1 d x
        · simp only [List.mem_singleton] at x; subst x; rw [t]; omega
      · rw [dv_snoc, r2, t]; omega

theorem rt_tx (n : Nat) : rt (tx n) = true := (ds_spec (n + 1) n (by omega)).1
theorem dv_tx (n : Nat) : dv (tx n) = n := (ds_spec (n + 1) n (by omega)).2.1
theorem tx_dv {l : List UInt8} (h : rt l = true) : tx (dv l) = l := rt_inj (rt_tx _) h (dv_tx _)
theorem tx_of {l : List UInt8} {n : Nat} (h : rt l = true) (e : dv l = n) : tx n = l := by rw [← e]; exact tx_dv h
theorem tx_inj {n m : Nat} (h : tx n = tx m) : n = m := by rw [← dv_tx n, h, dv_tx]

/-- how many digits -/
def tl (n : Nat) : Nat := (tx n).length
theorem tl_pos (n : Nat) : 1 ≤ tl n := rt_pos (rt_tx n)
theorem lt_tl (n : Nat) : n < 10 ^ tl n := by have := dv_lt (rt_dg (rt_tx n)); rwa [dv_tx] at this
theorem tl_low {n : Nat} (h : 1 < tl n) : 10 ^ (tl n - 1) ≤ n := by have := rt_low (rt_tx n) h; rwa [dv_tx] at this
theorem tl_mono {n m : Nat} (h : n ≤ m) : tl n ≤ tl m := rt_len_le (rt_tx n) (rt_tx m) (by rw [dv_tx, dv_tx]; exact h)
theorem tl_le {n k : Nat} (h : n < 10 ^ k) (hk : 1 ≤ k) : tl n ≤ k := by
  rcases Nat.lt_or_ge k (tl n) with c | c
  · exfalso
    have h1 := tl_low (n := n) (by omega)
    have h3 : 10 ^ k ≤ 10 ^ (tl n - 1) := Nat.pow_le_pow_right (by omega) (by omega)
    omega
  · exact c
theorem ten_le {k : Nat} (h : 1 ≤ k) : 10 ≤ 10 ^ k := by
  have : 10 ^ 1 ≤ 10 ^ k := Nat.pow_le_pow_right (by omega) h
  omega
theorem add_le_mul {p q : Nat} (hp : 2 ≤ p) (hq : 2 ≤ q) : p + q ≤ p * q := by
  obtain ⟨a, rfl⟩ : ∃ a, p = a + 2 := ⟨p - 2, by omega⟩
  obtain ⟨b, rfl⟩ : ∃ b, q = b + 2 := ⟨q - 2, by omega⟩
  have : (a + 2) * (b + 2) = a * b + 2 * a + 2 * b + 4 := by
    rw [Nat.add_mul, Nat.mul_add, Nat.mul_add]; omega
  omega
theorem tl_add (n m : Nat) : tl (n + m) ≤ tl n + tl m := by
  refine tl_le ?_ (by have := tl_pos n; omega)
  have h1 := lt_tl n
  have h2 := lt_tl m
  have h3 := add_le_mul (p := 10 ^ tl n) (q := 10 ^ tl m) (by have := ten_le (tl_pos n); omega) (by have := ten_le (tl_pos m); omega)
  rw [Nat.pow_add]; omega
theorem tl_mul (n m : Nat) : tl (n * m) ≤ tl n + tl m := by
  refine tl_le ?_ (by have := tl_pos n; omega)
  rw [Nat.pow_add]
  exact Nat.mul_lt_mul'' (lt_tl n) (lt_tl m)
theorem tl_sub (n m : Nat) : tl (n - m) ≤ tl n := tl_mono (by omega)

/-- the text as the program has it -/
def S (n : Nat) : ByteArray := ⟨(tx n).toArray⟩
theorem S_size (n : Nat) : (S n).size = tl n := by simp [S, ByteArray.size, tl]
theorem S_data (n : Nat) : (S n).data.toList = tx n := by simp [S]
theorem S_of {s : ByteArray} (h : rt s.data.toList = true) : s = S (dv s.data.toList) := by
  unfold S; rw [tx_dv h]
theorem S_inj {n m : Nat} (h : S n = S m) : n = m := by
  have : (S n).data.toList = (S m).data.toList := by rw [h]
  rw [S_data, S_data] at this
  exact tx_inj this

/-! bytes in a row -/
def bd (o : Nat → Nat) : Nat → Nat → Nat
  | _, 0 => 0
  | p, m + 1 => (o p - 48) * 10 ^ m + bd o (p + 1) m

theorem bd_congr {o q : Nat → Nat} : ∀ {m p : Nat}, (∀ i, p ≤ i → i < p + m → o i = q i) → bd o p m = bd q p m := by
  intro m
  induction m with
  | zero => intro p _; rfl
  | succ m ih =>
    intro p h
    simp only [bd]
    rw [h p (by omega) (by omega), ih (fun i a b => h i (by omega) (by omega))]

theorem mod_step (z j : Nat) : z % 10 ^ (j + 1) = z / 10 ^ j % 10 * 10 ^ j + z % 10 ^ j := by
  rw [Nat.pow_succ, Nat.mod_mul, Nat.mul_comm (10 ^ j), Nat.add_comm]

theorem bd_nine {o : Nat → Nat} {p m z : Nat} (h : ∀ i, p ≤ i → i < p + 9 → o i = 48 + z / 10 ^ (p + 8 - i) % 10) :
    ∀ j, j ≤ 9 → bd o (p + 9 - j) (j + m) = z % 10 ^ j * 10 ^ m + bd o (p + 9) m := by
  intro j
  induction j with
  | zero => intro _; simp [Nat.mod_one]
  | succ j ih =>
    intro hj
    rw [show j + 1 + m = (j + m) + 1 by omega]
    simp only [bd]
    rw [show p + 9 - (j + 1) + 1 = p + 9 - j by omega, ih (by omega), h (p + 9 - (j + 1)) (by omega) (by omega), show p + 8 - (p + 9 - (j + 1)) = j by omega, mod_step, Nat.add_mul, Nat.mul_assoc, ← Nat.pow_add, Nat.add_sub_cancel_left]
    omega

theorem bd_limb {o : Nat → Nat} {p m z : Nat} (hz : z < 1000000000) (h : ∀ i, p ≤ i → i < p + 9 → o i = 48 + z / 10 ^ (p + 8 - i) % 10) : bd o p (9 + m) = z * 10 ^ m + bd o (p + 9) m := by
  have := bd_nine (m := m) h 9 (Nat.le_refl _)
  rw [Nat.add_sub_cancel, Nat.mod_eq_of_lt (by omega)] at this
  exact this

theorem bd_zeros {o : Nat → Nat} : ∀ {k m p : Nat}, (∀ i, p ≤ i → i < p + k → o i = 48) → bd o p (k + m) = bd o (p + k) m := by
  intro k
  induction k with
  | zero => intro m p _; simp
  | succ k ih =>
    intro m p h
    rw [show k + 1 + m = (k + m) + 1 by omega]
    simp only [bd]
    rw [h p (by omega) (by omega), ih (fun i a b => h i (by omega) (by omega)), show p + 1 + k = p + (k + 1) by omega]
    simp

theorem dv_bd {o : Nat → Nat} : ∀ {m p : Nat}, (∀ i, p ≤ i → i < p + m → o i < 256) → dv ((List.range m).map fun i => UInt8.ofNat (o (p + i))) = bd o p m := by
  intro m
  induction m with
  | zero => intro p _; rfl
  | succ m ih =>
    intro p h
    rw [List.range_succ_eq_map, List.map_cons, dv_cons, List.map_map]
    simp only [bd, List.length_map, List.length_range]
    have e : (List.range m).map ((fun i => UInt8.ofNat (o (p + i))) ∘ Nat.succ) = (List.range m).map fun i => UInt8.ofNat (o (p + 1 + i)) := by
      apply List.map_congr_left
      intro i _
      simp only [Function.comp, Nat.succ_eq_add_one]
      rw [show p + (i + 1) = p + 1 + i by omega]
    rw [e, ih (fun i a b => h i (by omega) (by omega))]
    have := h p (by omega) (by omega)
    simp only [Nat.add_zero, UInt8.toNat_ofNat']
    rw [Nat.mod_eq_of_lt (by omega)]

/-- the text that is left when the noughts ahead are skipped -/
theorem rt_row {o : Nat → Nat} {p m : Nat} (hm : 0 < m) (hd : ∀ i, p ≤ i → i < p + m → 48 ≤ o i ∧ o i ≤ 57) (hp : o p ≠ 48) : rt ((List.range m).map fun i => UInt8.ofNat (o (p + i))) = true := by
  rw [rt_iff]
  have hb : ∀ n, 48 ≤ n → n ≤ 57 → (UInt8.ofNat n).toNat = n := fun n _ _ => by simp only [UInt8.toNat_ofNat']; omega
  refine ⟨?_, ?_⟩
  · intro c hc
    obtain ⟨i, hi, rfl⟩ := List.mem_map.1 hc
    have := hd (p + i) (by omega) (by simp at hi; omega)
    rw [hb _ this.1 this.2]; exact this
  · by_cases e : m = 1
    · left; simp [e]
    · right
      refine ⟨by simp; omega, ?_⟩
      obtain ⟨k, rfl⟩ : ∃ k, m = k + 1 := ⟨m - 1, by omega⟩
      rw [List.range_succ_eq_map, List.map_cons, List.head?_cons]
      intro x
      simp only [Option.some.injEq, Nat.add_zero] at x
      have h0 := hd p (by omega) (by omega)
      have := hb _ h0.1 h0.2
      rw [x] at this
      exact hp this.symm

/-- a limb, or 0 beyond -/
def ext (f : Nat → Nat) (n : Nat) : Nat → Nat := fun i => if i < n then f i else 0

theorem ext_lt {f : Nat → Nat} {n : Nat} (h : ∀ i, i < n → f i < 1000000000) (i : Nat) : ext f n i < 1000000000 := by
  unfold ext; split
  · exact h i (by assumption)
  · omega

theorem lv_ext {f : Nat → Nat} {n m : Nat} (h : n ≤ m) : lv (ext f n) m = lv f n := by
  rw [lv_cut h (fun i a b => by unfold ext; rw [if_neg (by omega)])]
  exact lv_congr fun i hi => by unfold ext; rw [if_pos hi]

/-- a step of a sum, of a limb and a carry -/
theorem carry_step (x t P : Nat) : x + t % 1000000000 * P + t / 1000000000 * (P * 1000000000) = x + t * P := by
  have h := Nat.div_add_mod t 1000000000
  have : t * P = (1000000000 * (t / 1000000000) + t % 1000000000) * P := by rw [h]
  rw [this, Nat.add_mul, Nat.mul_comm P 1000000000, ← Nat.mul_assoc, Nat.mul_comm (t / 1000000000) 1000000000]
  omega

structure AddI (o f g : Nat → Nat) (k c : Nat) : Prop where
  lim : ∀ i, i < k → o i < 1000000000
  car : c ≤ 1
  val : lv o k + c * 1000000000 ^ k = lv f k + lv g k

theorem AddI.step {o f g : Nat → Nat} {k c : Nat} (h : AddI o f g k c) (hf : f k < 1000000000) (hg : g k < 1000000000) : AddI (up o k ((f k + g k + c) % 1000000000)) f g (k + 1) ((f k + g k + c) / 1000000000) := by
  have hc := h.car
  refine ⟨fun i hi => ?_, by omega, ?_⟩
  · by_cases e : i = k
    · subst e; rw [up_same]; omega
    · rw [up_other _ _ e]; exact h.lim i (by omega)
  · rw [lv_succ, lv_succ, lv_succ, up_same, lv_up (Nat.le_refl _), Nat.pow_succ, carry_step, Nat.add_mul, Nat.add_mul]
    have := h.val
    omega

structure SubI (o f g : Nat → Nat) (k c : Nat) : Prop where
  lim : ∀ i, i < k → o i < 1000000000
  car : c ≤ 1
  val : lv o k + lv g k = lv f k + c * 1000000000 ^ k

theorem SubI.step {o f g : Nat → Nat} {k c : Nat} (h : SubI o f g k c) (hf : f k < 1000000000) (hg : g k < 1000000000) :
    ∃ l d, ((f k : Int) - g k + -(c : Int)) % 1000000000 = (l : Nat) ∧ ((f k : Int) - g k + -(c : Int)) / 1000000000 = -((d : Nat) : Int) ∧ SubI (up o k l) f g (k + 1) d := by
  have hc := h.car
  have key : ∀ l d, l < 1000000000 → d ≤ 1 → l + g k + c = f k + d * 1000000000 → SubI (up o k l) f g (k + 1) d := by
    intro l d hl hd he
    refine ⟨fun i hi => ?_, hd, ?_⟩
    · by_cases e : i = k
      · subst e; rw [up_same]; exact hl
      · rw [up_other _ _ e]; exact h.lim i (by omega)
    · rw [lv_succ, lv_succ, lv_succ, up_same, lv_up (Nat.le_refl _), Nat.pow_succ]
      have h1 := h.val
      have h2 : (l + g k + c) * 1000000000 ^ k = (f k + d * 1000000000) * 1000000000 ^ k := by rw [he]
      rw [Nat.add_mul, Nat.add_mul, Nat.add_mul, Nat.mul_assoc d, Nat.mul_comm 1000000000 (1000000000 ^ k)] at h2
      omega
  by_cases e : g k + c ≤ f k
  · refine ⟨f k - g k - c, 0, by omega, by omega, key _ _ (by omega) (by omega) (by omega)⟩
  · refine ⟨f k + 1000000000 - g k - c, 1, by omega, by omega, key _ _ (by omega) (by omega) (by omega)⟩

theorem SubI.done {o f g : Nat → Nat} {n m c : Nat} (h : SubI o f (ext g m) n c) (hm : m ≤ n) (hle : lv g m ≤ lv f n) : lv o n = lv f n - lv g m := by
  have h1 := h.val
  rw [lv_ext hm] at h1
  have h2 := lv_lt h.lim
  have hc := h.car
  rcases Nat.eq_zero_or_pos c with e | e
  · subst e; omega
  · obtain rfl : c = 1 := by omega
    omega
end Go.Proofs.YtpmnfgbbkmodpaaGreatDoor.Nm
