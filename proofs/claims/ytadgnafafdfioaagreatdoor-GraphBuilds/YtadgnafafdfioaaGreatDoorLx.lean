/-
  LINES, WORDS AND NAMES AS LISTS OF BYTES: what the document's answer for layer 8 is, and what more blanks, a comment, another text behind, and names one blank apart make of it. Nothing of the program's text is named here. No conditions.
-/
namespace Go.Proofs.YtadgnafafdfioaaGreatDoor.Lx
set_option linter.unusedVariables false

abbrev Bt := List UInt8

/-- a word, if it has a byte -/
def fl (w : Bt) : List Bt := if w = [] then [] else [w]
/-- a line, if it has a word -/
def ln1 (n : Nat) (ws : List Bt) : List (Nat × List Bt) := if ws = [] then [] else [(n, ws)]
/-- the lines of what is left, in the line n, behind the words W and the bytes w; off: behind # -/
def tl (n : Nat) (W : List Bt) (w : Bt) (off : Bool) : Bt → List (Nat × List Bt)
  | [] => ln1 n (W ++ fl w)
  | b :: t =>
    if b = 10 then ln1 n (W ++ fl w) ++ tl (n + 1) [] [] false t
    else if off = true ∨ b = 32 ∨ b = 35 then tl n (W ++ fl w) [] (off || b == 35) t
    else tl n W (w ++ [b]) off t
/-- the lines that have words -/
def lns (s : Bt) : List (Nat × List Bt) := tl 1 [] [] false s

theorem fl_nil : fl [] = [] := rfl
theorem fl_ne {w : Bt} (h : w ≠ []) : fl w = [w] := if_neg h
theorem fl_app (w : Bt) (b : UInt8) : fl (w ++ [b]) = [w ++ [b]] := fl_ne (by simp)
theorem ln1_nil (n : Nat) : ln1 n [] = [] := rfl
theorem ln1_ne {n : Nat} {W : List Bt} (h : W ≠ []) : ln1 n W = [(n, W)] := if_neg h

/-- behind #, up to the line's end: nothing -/
theorem tl_off : ∀ (c : Bt) (n : Nat) (W : List Bt), (∀ b ∈ c, b ≠ 10) → tl n W [] true c = ln1 n W
  | [], n, W, _ => by simp [tl, fl_nil]
  | b :: c, n, W, h => by
    have h0 : b ≠ 10 := h b (by simp)
    rw [tl, if_neg h0, if_pos (Or.inl rfl), fl_nil, List.append_nil]
    exact tl_off c n W (fun x hx => h x (by simp [hx]))
/-- a line's words, without # -/
def fld : Bt → Bt → List Bt
  | w, [] => fl w
  | w, b :: t => if b = 32 then fl w ++ fld [] t else fld (w ++ [b]) t
theorem tl_line : ∀ (l : Bt) (n : Nat) (W : List Bt) (w : Bt), (∀ b ∈ l, b ≠ 10 ∧ b ≠ 35) → tl n W w false l = ln1 n (W ++ fld w l)
  | [], n, W, w, _ => by simp [tl, fld]
  | b :: l, n, W, w, h => by
    obtain ⟨h0, h1⟩ := h b (by simp)
    have ht : ∀ x ∈ l, x ≠ 10 ∧ x ≠ 35 := fun x hx => h x (by simp [hx])
    rw [tl, if_neg h0, fld]
    by_cases c : b = 32
    · rw [if_pos (Or.inr (Or.inl c)), if_pos c]
      have e : (false || b == 35) = false := by simpa using h1
      rw [e, tl_line l n _ _ ht, List.append_assoc]
    · have hn : ¬ (false = true ∨ b = 32 ∨ b = 35) := by simp [c, h1]
      rw [if_neg hn, if_neg c, tl_line l n _ _ ht]
theorem tl_cut : ∀ (l c : Bt) (n : Nat) (W : List Bt) (w : Bt), (∀ b ∈ l, b ≠ 10 ∧ b ≠ 35) → (∀ b ∈ c, b ≠ 10) → tl n W w false (l ++ 35 :: c) = ln1 n (W ++ fld w l)
  | [], c, n, W, w, _, hc => by
    rw [List.nil_append, tl, if_neg (by decide), if_pos (Or.inr (Or.inr rfl)), fld]
    exact tl_off c n _ hc
  | b :: l, c, n, W, w, h, hc => by
    obtain ⟨h0, h1⟩ := h b (by simp)
    have ht : ∀ x ∈ l, x ≠ 10 ∧ x ≠ 35 := fun x hx => h x (by simp [hx])
    rw [List.cons_append, tl, if_neg h0, fld]
    by_cases e32 : b = 32
    · rw [if_pos (Or.inr (Or.inl e32)), if_pos e32]
      have e : (false || b == 35) = false := by simpa using h1
      rw [e, tl_cut l c n _ _ ht hc, List.append_assoc]
    · have hn : ¬ (false = true ∨ b = 32 ∨ b = 35) := by simp [e32, h1]
      rw [if_neg hn, if_neg e32, tl_cut l c n _ _ ht hc]

/-- one text behind the other -/
theorem tl_join : ∀ (a b : Bt) (n : Nat) (W : List Bt) (w : Bt) (off : Bool), tl n W w off (a ++ 10 :: b) = tl n W w off a ++ tl (n + 1 + a.count 10) [] [] false b
  | [], b, n, W, w, off => by simp [tl]
  | x :: a, b, n, W, w, off => by
    rw [List.cons_append, tl, tl]
    by_cases c : x = 10
    · subst c
      rw [if_pos rfl, if_pos rfl, tl_join a b, List.count_cons_self, List.append_assoc, show n + 1 + 1 + List.count 10 a = n + 1 + (List.count 10 a + 1) by omega]
    · rw [if_neg c, if_neg c, List.count_cons_of_ne (by simpa using c)]
      split
      · exact tl_join a b _ _ _ _
      · exact tl_join a b _ _ _ _
def far (k : Nat) (x : Nat × List Bt) : Nat × List Bt := (x.1 + k, x.2)
theorem ln1_far (n k : Nat) (W : List Bt) : ln1 (n + k) W = (ln1 n W).map (far k) := by
  unfold ln1
  split <;> rfl
theorem tl_far (k : Nat) : ∀ (s : Bt) (n : Nat) (W : List Bt) (w : Bt) (off : Bool), tl (n + k) W w off s = (tl n W w off s).map (far k)
  | [], n, W, w, off => by rw [tl, tl, ln1_far]
  | b :: s, n, W, w, off => by
    rw [tl, tl]
    split
    · rw [List.map_append, ← ln1_far, ← tl_far k s, show n + k + 1 = n + 1 + k by omega]
    · split
      · exact tl_far k s _ _ _ _
      · exact tl_far k s _ _ _ _
theorem lns_join (a b : Bt) : lns (a ++ 10 :: b) = lns a ++ (lns b).map (far (1 + a.count 10)) := by
  unfold lns
  rw [tl_join, ← tl_far, show 1 + 1 + a.count 10 = 1 + (1 + a.count 10) by omega]

/-- a line's end: what Cut tells apart -/
theorem lns_line {n : Nat} (l b : Bt) (h : ∀ x ∈ l, x ≠ 10) : tl n [] [] false (l ++ 10 :: b) = tl n [] [] false l ++ tl (n + 1) [] [] false b := by
  rw [tl_join, List.count_eq_zero_of_not_mem (fun hm => h 10 hm rfl), Nat.add_zero]

/-- two blanks more behind each -/
def wide (s : Bt) : Bt := s.flatMap fun b => if b = 32 then [b, 32, 32] else [b]
theorem tl_blank (n : Nat) (W : List Bt) (w t : Bt) (off : Bool) : tl n W w off (32 :: t) = tl n (W ++ fl w) [] off t := by
  rw [tl, if_neg (by decide), if_pos (Or.inr (Or.inl rfl))]
  simp
theorem tl_wide (c : Bt) (hc : ∀ b ∈ c, b ≠ 10) : ∀ (s : Bt) (n : Nat) (W : List Bt) (w : Bt) (off : Bool), (off = true → w = []) → tl n W w off (wide s ++ 32 :: 35 :: c) = tl n W w off s
  | [], n, W, w, off, h => by
    unfold wide
    rw [List.flatMap_nil, List.nil_append, tl_blank]
    have e1 : ∀ W', tl n W' [] off (35 :: c) = tl n (W' ++ fl []) [] (off || (35 : UInt8) == 35) c := fun W' => by rw [tl, if_neg (by decide), if_pos (Or.inr (Or.inr rfl))]
    rw [e1, fl_nil, List.append_nil]
    have e : (off || (35 : UInt8) == 35) = true := by simp
    rw [e, tl_off c _ _ hc, tl]
  | b :: s, n, W, w, off, h => by
    have e : wide (b :: s) = (if b = 32 then [b, 32, 32] else [b]) ++ wide s := by simp [wide]
    rw [e, List.append_assoc]
    by_cases c32 : b = 32
    · subst c32
      rw [if_pos rfl]
      simp only [List.cons_append, List.nil_append]
      rw [tl_blank, tl_blank, tl_blank, tl_blank, fl_nil, List.append_nil, List.append_nil]
      exact tl_wide c hc s _ _ _ _ (fun _ => rfl)
    · rw [if_neg c32]
      simp only [List.cons_append, List.nil_append]
      rw [tl, tl]
      split
      · rw [tl_wide c hc s _ _ _ _ (fun _ => rfl)]
      · split
        · exact tl_wide c hc s _ _ _ _ (fun _ => rfl)
        · rename_i hn
          exact tl_wide c hc s _ _ _ _ (fun ho => absurd (Or.inl ho) hn)
theorem lns_wide (s c : Bt) (hc : ∀ b ∈ c, b ≠ 10) : lns (32 :: (wide s ++ 32 :: 35 :: c)) = lns s := by
  unfold lns
  rw [tl_blank, fl_nil, List.append_nil]
  exact tl_wide c hc s _ _ _ _ (fun h => by cases h)

/-- how many lines, and their numbers -/
theorem ln1_len (n : Nat) (W : List Bt) : (ln1 n W).length ≤ 1 := by unfold ln1; split <;> simp
theorem tl_len : ∀ (s : Bt) (n : Nat) (W : List Bt) (w : Bt) (off : Bool), (tl n W w off s).length ≤ s.length + 1
  | [], n, W, w, off => by rw [tl]; simpa using ln1_len n _
  | b :: s, n, W, w, off => by
    rw [tl]
    split
    · have h1 := ln1_len n (W ++ fl w)
      have h2 := tl_len s (n + 1) [] [] false
      simp only [List.length_append, List.length_cons]; omega
    · split
      · have := tl_len s n (W ++ fl w) [] (off || b == 35); simp only [List.length_cons]; omega
      · have := tl_len s n W (w ++ [b]) off; simp only [List.length_cons]; omega

/-- names, and what stands between them -/
def sep (c : UInt8) (l : List Bt) : Bt := l.flatMap fun y => c :: y
def jn (c : UInt8) : List Bt → Bt
  | [] => []
  | x :: xs => x ++ sep c xs
theorem sep_app (c : UInt8) (l : List Bt) (x : Bt) : sep c (l ++ [x]) = sep c l ++ c :: x := by simp [sep]
theorem jn_app (c : UInt8) (l : List Bt) (x : Bt) (h : l ≠ []) : jn c (l ++ [x]) = jn c l ++ c :: x := by
  cases l with
  | nil => exact absurd rfl h
  | cons y l => simp [jn, sep]
def plain (x : Bt) : Prop := ∀ b ∈ x, b ≠ 10 ∧ b ≠ 32 ∧ b ≠ 35
theorem tl_plain : ∀ (x t : Bt) (n : Nat) (W : List Bt) (w : Bt), plain x → tl n W w false (x ++ t) = tl n W (w ++ x) false t
  | [], t, n, W, w, _ => by simp
  | b :: x, t, n, W, w, h => by
    obtain ⟨h0, h1, h2⟩ := h b (by simp)
    rw [List.cons_append, tl, if_neg h0, if_neg (by simp [h1, h2]), tl_plain x t n W _ (fun y hy => h y (by simp [hy])), List.append_assoc]
    rfl
theorem tl_blanks : ∀ (l : List Bt) (x : Bt) (n : Nat) (W : List Bt), x ≠ [] → (∀ y ∈ l, y ≠ [] ∧ plain y) → tl n W x false (sep 32 l) = ln1 n (W ++ x :: l)
  | [], x, n, W, hx, _ => by simp [sep, tl, fl_ne hx]
  | y :: l, x, n, W, hx, h => by
    obtain ⟨hy, hp⟩ := h y (by simp)
    have e : sep 32 (y :: l) = 32 :: (y ++ sep 32 l) := by simp [sep]
    rw [e, tl_blank, tl_plain y _ _ _ _ hp, List.nil_append, tl_blanks l y n _ hy (fun z hz => h z (by simp [hz])), fl_ne hx, List.append_assoc]
    rfl
def rows (n : Nat) : List Bt → List (Nat × List Bt)
  | [] => []
  | x :: l => (n, [x]) :: rows (n + 1) l
theorem tl_rows : ∀ (l : List Bt) (x : Bt) (n : Nat), x ≠ [] → (∀ y ∈ l, y ≠ [] ∧ plain y) → tl n [] x false (sep 10 l) = (n, [x]) :: rows (n + 1) l
  | [], x, n, hx, _ => by simp [sep, tl, fl_ne hx, ln1, rows]
  | y :: l, x, n, hx, h => by
    obtain ⟨hy, hp⟩ := h y (by simp)
    have e : sep 10 (y :: l) = 10 :: (y ++ sep 10 l) := by simp [sep]
    rw [e, tl, if_pos rfl, tl_plain y _ _ _ _ hp, List.nil_append (as := y), List.nil_append, tl_rows l y (n + 1) hy (fun z hz => h z (by simp [hz])), fl_ne hx]
    rfl
theorem lns_blanks {l : List Bt} (h : ∀ y ∈ l, y ≠ [] ∧ plain y) (h0 : l ≠ []) : lns (jn 32 l) = [(1, l)] := by
  cases l with
  | nil => exact absurd rfl h0
  | cons x l =>
    obtain ⟨hx, hp⟩ := h x (by simp)
    unfold lns jn
    rw [tl_plain x _ _ _ _ hp, List.nil_append, tl_blanks l x 1 [] hx (fun z hz => h z (by simp [hz]))]
    rfl
theorem lns_rows {l : List Bt} (h : ∀ y ∈ l, y ≠ [] ∧ plain y) : lns (jn 10 l) = rows 1 l := by
  cases l with
  | nil => rfl
  | cons x l =>
    obtain ⟨hx, hp⟩ := h x (by simp)
    unfold lns jn
    rw [tl_plain x _ _ _ _ hp, List.nil_append, tl_rows l x 1 hx (fun z hz => h z (by simp [hz]))]
    rfl
theorem rows_at : ∀ (l : List Bt) (n i : Nat) (x : Bt), l[i]? = some x → (rows n l)[i]? = some (n + i, [x])
  | [], n, i, x, h => by simp at h
  | y :: l, n, 0, x, h => by simp at h; subst h; rfl
  | y :: l, n, i + 1, x, h => by
    have := rows_at l (n + 1) i x (by simpa using h)
    rw [rows, List.getElem?_cons_succ, this, show n + 1 + i = n + (i + 1) by omega]
theorem rows_len : ∀ (l : List Bt) (n : Nat), (rows n l).length = l.length
  | [], n => rfl
  | y :: l, n => by rw [rows, List.length_cons, rows_len l, List.length_cons]

/-- names -/
def ltr (b : UInt8) : Bool := decide (97 ≤ b.toNat) && decide (b.toNat ≤ 122)
def dgt (b : UInt8) : Bool := decide (48 ≤ b.toNat) && decide (b.toNat ≤ 57)
def ok (b : UInt8) : Bool := ltr b || dgt b
def nm : Bt → Bool
  | [] => false
  | b :: t => ltr b && t.all ok && decide (t.length < 8)
theorem ok_ltr {b : UInt8} (h : ltr b = true) : ok b = true := by simp [ok, h]
theorem nm_len {s : Bt} (h : nm s = true) : s ≠ [] ∧ s.length ≤ 8 := by
  cases s with
  | nil => simp [nm] at h
  | cons b t =>
    simp only [nm, Bool.and_eq_true, decide_eq_true_eq] at h
    exact ⟨by simp, by simp; omega⟩
theorem nm_all {s : Bt} (h : nm s = true) : ∀ b ∈ s, ok b = true := by
  cases s with
  | nil => simp [nm] at h
  | cons b t =>
    simp only [nm, Bool.and_eq_true, decide_eq_true_eq, List.all_eq_true] at h
    intro x hx
    rcases List.mem_cons.1 hx with rfl | hx
    · exact ok_ltr h.1.1
    · exact h.1.2 x hx
theorem ok_plain {b : UInt8} (h : ok b = true) : b ≠ 10 ∧ b ≠ 32 ∧ b ≠ 35 := by
  refine ⟨?_, ?_, ?_⟩ <;> (rintro rfl; revert h; decide)
theorem nm_plain {s : Bt} (h : nm s = true) : plain s := fun b hb => ok_plain (nm_all h b hb)
theorem nm_more {s : Bt} (h : nm s = true) (c : UInt8) (hc : dgt c = true) : nm (s ++ [c]) = decide (s.length < 8) := by
  cases s with
  | nil => simp [nm] at h
  | cons b t =>
    simp only [nm, Bool.and_eq_true, decide_eq_true_eq] at h
    have e : ok c = true := by simp [ok, hc]
    simp [nm, h.1.1, h.1.2, e]
theorem nm_bad (p q : Bt) (c : UInt8) (hc : ok c = false) : nm (p ++ c :: q) = false := by
  cases hn : nm (p ++ c :: q) with
  | false => rfl
  | true =>
    have := nm_all hn c (by simp)
    rw [hc] at this
    cases this
theorem nm_digit (s : Bt) (c : UInt8) (hc : ltr c = false) : nm (c :: s) = false := by simp [nm, hc]
end Go.Proofs.YtadgnafafdfioaaGreatDoor.Lx
