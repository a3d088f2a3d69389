/-
  SHAPES AND PLACES, AS LISTS OF NATURALS: sizes, counts, places, the next place. Nothing of the program's text is named here. No conditions.
-/
namespace Go.Proofs.Ytjelhhchlffjbaa
set_option linter.unusedVariables false

/-- a shape's size -/
def shz : List Nat → Nat
  | [] => 1
  | a :: s => a * shz s
/-- a place's count -/
def cnt : List Nat → List Nat → Nat
  | a :: s, x :: t => x * shz s + cnt s t
  | _, _ => 0
/-- the place of a count -/
def plc : List Nat → Nat → List Nat
  | [], _ => []
  | a :: s, n => n / shz s :: plc s (n % shz s)
/-- is it a place? -/
def inn : List Nat → List Nat → Bool
  | [], [] => true
  | a :: s, x :: t => decide (x < a) && inn s t
  | _, _ => false
/-- is it a shape? (as far as the numbers go) -/
def pos (s : List Nat) : Prop := ∀ a, a ∈ s → 1 ≤ a

theorem shz_pos {s : List Nat} (h : pos s) : 1 ≤ shz s := by
  induction s with
  | nil => simp [shz]
  | cons a s ih =>
    have h1 := h a List.mem_cons_self
    have h2 := ih (fun b hb => h b (List.mem_cons_of_mem _ hb))
    exact Nat.mul_pos h1 h2
theorem shz_app (s t : List Nat) : shz (s ++ t) = shz s * shz t := by
  induction s with
  | nil => simp [shz]
  | cons a s ih => simp [shz, ih, Nat.mul_assoc]
theorem shz_one (s : List Nat) : shz (1 :: s) = shz s := by simp [shz]
theorem shz_snoc (s : List Nat) (k : Nat) : shz (s ++ [k]) = shz s * k := by rw [shz_app]; simp [shz]
theorem shz_turn (s : List Nat) : shz s.reverse = shz s := by
  induction s with
  | nil => rfl
  | cons a s ih => rw [List.reverse_cons, shz_snoc, ih, Nat.mul_comm]; rfl
theorem shz_zero {s : List Nat} (h : ¬ pos s) : shz s = 0 := by
  induction s with
  | nil => exact absurd (fun a ha => by cases ha) h
  | cons a s ih =>
    by_cases ha : 1 ≤ a
    · have : ¬ pos s := fun c => h (fun b hb => by
        rcases List.mem_cons.1 hb with e | e
        · rw [e]; exact ha
        · exact c b e)
      simp [shz, ih this]
    · have : a = 0 := by omega
      simp [shz, this]
theorem shz_le {s : List Nat} (h : pos s) {a : Nat} (ha : a ∈ s) : a ≤ shz s := by
  induction s with
  | nil => cases ha
  | cons b s ih =>
    have hs : pos s := fun c hc => h c (List.mem_cons_of_mem _ hc)
    have p := shz_pos hs
    rcases List.mem_cons.1 ha with e | e
    · rw [e]; exact Nat.le_mul_of_pos_right b p
    · have := ih hs e
      have b1 := h b List.mem_cons_self
      exact Nat.le_trans this (Nat.le_mul_of_pos_left _ b1)
theorem inn_len {s t : List Nat} (h : inn s t = true) : t.length = s.length := by
  induction s generalizing t with
  | nil => cases t with
    | nil => rfl
    | cons x t => cases h
  | cons a s ih => cases t with
    | nil => cases h
    | cons x t => simp [inn] at h; simp [ih h.2]
theorem cnt_lt {s t : List Nat} (h : inn s t = true) : cnt s t < shz s := by
  induction s generalizing t with
  | nil => cases t with
    | nil => decide
    | cons x t => cases h
  | cons a s ih => cases t with
    | nil => cases h
    | cons x t =>
      simp [inn] at h
      have := ih h.2
      have h3 : (x + 1) * shz s ≤ a * shz s := Nat.mul_le_mul_right _ h.1
      simp only [cnt, shz]
      rw [Nat.add_mul, Nat.one_mul] at h3
      omega
theorem plc_inn {s : List Nat} (h : pos s) {n : Nat} (hn : n < shz s) : inn s (plc s n) = true := by
  induction s generalizing n with
  | nil => rfl
  | cons a s ih =>
    have hs : pos s := fun b hb => h b (List.mem_cons_of_mem _ hb)
    have p := shz_pos hs
    simp only [plc, inn, Bool.and_eq_true, decide_eq_true_eq]
    refine ⟨?_, ih hs (Nat.mod_lt _ p)⟩
    exact (Nat.div_lt_iff_lt_mul p).2 hn
theorem cnt_plc {s : List Nat} (h : pos s) {n : Nat} (hn : n < shz s) : cnt s (plc s n) = n := by
  induction s generalizing n with
  | nil => simp [shz] at hn; simp [cnt, hn]
  | cons a s ih =>
    have hs : pos s := fun b hb => h b (List.mem_cons_of_mem _ hb)
    have p := shz_pos hs
    simp only [plc, cnt]
    rw [ih hs (Nat.mod_lt _ p), Nat.mul_comm]
    exact Nat.div_add_mod n (shz s)
theorem plc_cnt {s t : List Nat} (h : inn s t = true) : plc s (cnt s t) = t := by
  induction s generalizing t with
  | nil => cases t with
    | nil => rfl
    | cons x t => cases h
  | cons a s ih => cases t with
    | nil => cases h
    | cons x t =>
      simp [inn] at h
      have lt := cnt_lt h.2
      have p : 0 < shz s := by omega
      simp only [plc, cnt]
      rw [Nat.mul_comm x, Nat.mul_add_div p, Nat.div_eq_of_lt lt, Nat.mul_add_mod, Nat.mod_eq_of_lt lt, ih h.2]
      rfl
theorem cnt_inj {s t u : List Nat} (h1 : inn s t = true) (h2 : inn s u = true) (e : cnt s t = cnt s u) : t = u := by
  rw [← plc_cnt h1, ← plc_cnt h2, e]
theorem plc_zero (s : List Nat) : plc s 0 = List.replicate s.length 0 := by
  induction s with
  | nil => rfl
  | cons a s ih => simp [plc, ih, List.replicate_succ]
theorem plc_last {s : List Nat} (h : pos s) : plc s (shz s - 1) = s.map (· - 1) := by
  induction s with
  | nil => rfl
  | cons a s ih =>
    have hs : pos s := fun b hb => h b (List.mem_cons_of_mem _ hb)
    have p := shz_pos hs
    have a1 := h a List.mem_cons_self
    have e : a * shz s - 1 = shz s * (a - 1) + (shz s - 1) := by
      obtain ⟨k, rfl⟩ : ∃ k, a = k + 1 := ⟨a - 1, by omega⟩
      rw [Nat.add_mul, Nat.one_mul, Nat.add_sub_cancel, Nat.mul_comm]; omega
    simp only [plc, shz, List.map_cons]
    rw [e, Nat.mul_add_div (by omega), Nat.div_eq_of_lt (by omega), Nat.mul_add_mod, Nat.mod_eq_of_lt (by omega), ih hs]
    rfl

/-- the place behind one, and whether there is one -/
def nxt : List Nat → List Nat → List Nat × Bool
  | a :: s, x :: t =>
    let r := nxt s t
    if r.2 then (x :: r.1, true) else if x + 1 < a then ((x + 1) :: r.1, true) else (0 :: r.1, false)
  | _, _ => ([], false)
theorem nxt_more {s t : List Nat} (h : inn s t = true) :
    if (nxt s t).2 then inn s (nxt s t).1 = true ∧ cnt s (nxt s t).1 = cnt s t + 1 else cnt s t + 1 = shz s ∧ (nxt s t).1 = List.replicate s.length 0 := by
  induction s generalizing t with
  | nil => cases t with
    | nil => simp [nxt, cnt, shz]
    | cons x t => cases h
  | cons a s ih => cases t with
    | nil => cases h
    | cons x t =>
      simp [inn] at h
      have k := ih h.2
      by_cases hc : (nxt s t).2 = true
      · have e : nxt (a :: s) (x :: t) = (x :: (nxt s t).1, true) := by simp [nxt, hc]
        rw [if_pos hc] at k
        rw [e]
        simp only [if_true, inn, cnt, Bool.and_eq_true, decide_eq_true_eq]
        exact ⟨⟨h.1, k.1⟩, by rw [k.2]; omega⟩
      · rw [if_neg hc] at k
        have pp : pos s := by
          by_cases hp : pos s
          · exact hp
          · have := shz_zero hp
            have := cnt_lt h.2
            omega
        have z : cnt s (List.replicate s.length 0) = 0 := by rw [← plc_zero]; exact cnt_plc pp (shz_pos pp)
        have hz : inn s (List.replicate s.length 0) = true := by rw [← plc_zero]; exact plc_inn pp (shz_pos pp)
        by_cases hx : x + 1 < a
        · have e : nxt (a :: s) (x :: t) = ((x + 1) :: List.replicate s.length 0, true) := by simp [nxt, hc, hx, k.2]
          rw [e]
          simp only [if_true, inn, cnt, Bool.and_eq_true, decide_eq_true_eq]
          refine ⟨⟨hx, hz⟩, ?_⟩
          rw [z, Nat.add_mul, Nat.one_mul]; omega
        · have e : nxt (a :: s) (x :: t) = (0 :: List.replicate s.length 0, false) := by simp [nxt, hc, hx, k.2]
          rw [e]
          simp only [Bool.false_eq_true, if_false, cnt, shz, List.length_cons, List.replicate_succ]
          refine ⟨?_, True.intro⟩
          have : a = x + 1 := by omega
          rw [this, Nat.add_mul, Nat.one_mul]; omega
end Go.Proofs.Ytjelhhchlffjbaa
