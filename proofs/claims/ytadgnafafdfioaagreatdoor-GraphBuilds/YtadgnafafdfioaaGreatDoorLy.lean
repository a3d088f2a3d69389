/-
  WHAT THE LIBRARY TELLS APART IS WHAT THE DOCUMENT TELLS APART: the pieces of FieldsFunc at the blank are the words; where IndexByte finds a byte. Nothing of the program's text is named here. No conditions.
-/
import Derived.Test.YtadgnafafdfioaaGreatDoorLx
import Derived.Lib.FieldsP
import Derived.Lib.Bytealg
namespace Go.Proofs.YtadgnafafdfioaaGreatDoor.Lx
open Go.Lib
set_option linter.unusedVariables false

theorem rune_facts (n b0 b1 b2 b3 : Nat) (hn : 1 ≤ n) :
    ((decodeN n b0 b1 b2 b3).1 = 32 ↔ b0 = 32) ∧ (b0 = 32 → (decodeN n b0 b1 b2 b3).2 = 1) ∧ (2 ≤ (decodeN n b0 b1 b2 b3).2 → b1 / 64 = 2) ∧ (3 ≤ (decodeN n b0 b1 b2 b3).2 → b2 / 64 = 2) ∧ (4 ≤ (decodeN n b0 b1 b2 b3).2 → b3 / 64 = 2) ∧
    1 ≤ (decodeN n b0 b1 b2 b3).2 ∧ (decodeN n b0 b1 b2 b3).2 ≤ 4 ∧ (decodeN n b0 b1 b2 b3).2 ≤ n := by
  unfold decodeN
  repeat' split
  all_goals (refine ⟨⟨fun h => ?_, fun h => ?_⟩, fun h => ?_, fun h => ?_, fun h => ?_, fun h => ?_, ?_, ?_, ?_⟩ <;> simp only at * <;> omega)

/-- a rune at a place: a blank, or bytes that are none -/
theorem rune_at (s : ByteArray) (pos : Nat) (h : pos < s.size) : pos + (Utf8.decode s pos).2 ≤ s.size ∧ 1 ≤ (Utf8.decode s pos).2 ∧
    ((Utf8.decode s pos).1 = 32 → (Utf8.decode s pos).2 = 1 ∧ s.data.toList.getD pos 0 = 32) ∧
    ((Utf8.decode s pos).1 ≠ 32 → ∀ j, j < (Utf8.decode s pos).2 → s.data.toList.getD (pos + j) 0 ≠ 32) := by
  obtain ⟨f1, f2, f3, f4, f5, f6, f7, f8⟩ := rune_facts (s.data.toList.length - pos) (s.data.toList.getD pos 0).toNat (s.data.toList.getD (pos + 1) 0).toNat (s.data.toList.getD (pos + 2) 0).toNat (s.data.toList.getD (pos + 3) 0).toNat (by have : s.data.toList.length = s.size := rfl; omega)
  rw [← decode_N] at f1 f2 f3 f4 f5 f6 f7 f8
  have hl : s.data.toList.length = s.size := rfl
  refine ⟨by omega, f6, fun h32 => ?_, fun hn j hj => ?_⟩
  · have e := f1.1 h32
    exact ⟨f2 e, UInt8.toNat_inj.1 e⟩
  · intro e
    have e' : (s.data.toList.getD (pos + j) 0).toNat = 32 := by rw [e]; rfl
    match j, hj with
    | 0, hj => exact hn (f1.2 (by simpa using e'))
    | 1, hj => have := f3 (by omega); omega
    | 2, hj => have := f4 (by omega); omega
    | 3, hj => have := f5 (by omega); omega
    | j + 4, hj => omega

theorem fld_skip : ∀ (x t w : Bt), (∀ b ∈ x, b ≠ 32) → fld w (x ++ t) = fld (w ++ x) t
  | [], t, w, _ => by simp
  | b :: x, t, w, h => by
    rw [List.cons_append, fld, if_neg (h b (by simp)), fld_skip x t _ (fun y hy => h y (by simp [hy])), List.append_assoc]
    rfl
theorem drop_cons (l : Bt) (pos : Nat) (h : pos < l.length) : l.drop pos = l.getD pos 0 :: l.drop (pos + 1) := by
  rw [List.drop_eq_getElem_cons h, List.getD_eq_getElem?_getD, List.getElem?_eq_getElem h]
  rfl
theorem take_mem (l : Bt) (pos k : Nat) (h : pos + k ≤ l.length) (hn : ∀ j, j < k → l.getD (pos + j) 0 ≠ 32) : ∀ b ∈ (l.drop pos).take k, b ≠ 32 := by
  intro b hb
  obtain ⟨i, hi, rfl⟩ := List.getElem_of_mem hb
  have hi' : i < k := by simp at hi; omega
  have := hn i hi'
  rw [List.getD_eq_getElem?_getD, List.getElem?_eq_getElem (show pos + i < l.length by omega)] at this
  simpa using this
theorem fl_piece {l : Bt} {a pos : Nat} (h : a < pos) (hp : pos ≤ l.length) : fl (pieceU l a pos) = [pieceU l a pos] := fl_ne (pieceU_ne l a pos h hp)

def bl : Nat → Bool := fun r => r == 32

/-- the pass over the runes -/
theorem spans_fld (s : ByteArray) : ∀ (f pos : Nat) (st : Option Nat) (acc : List (Nat × Nat)), s.size ≤ pos + f → pos ≤ s.size → (∀ a, st = some a → a < pos) →
    acc.map (fun p => pieceU s.data.toList p.1 p.2) ++ fld (openPiece s.data.toList st pos) (s.data.toList.drop pos) = (closeSpans s (spansFromP bl s f pos st acc)).map (fun p => pieceU s.data.toList p.1 p.2)
  | 0, pos, st, acc, h, hp, hst => by
    obtain rfl : pos = s.size := by omega
    have hd : s.data.toList.drop s.size = [] := List.drop_eq_nil_of_le (Nat.le_refl _)
    rw [hd, fld]
    cases st with
    | none => simp [spansFromP, closeSpans, openPiece, fl_nil]
    | some a =>
      have := fl_piece (l := s.data.toList) (hst a rfl) (Nat.le_refl _)
      simp [spansFromP, closeSpans, openPiece, this]
  | f + 1, pos, st, acc, h, hp, hst => by
    by_cases hlt : pos < s.size
    · obtain ⟨g1, g2, g3, g4⟩ := rune_at s pos hlt
      simp only [spansFromP, if_pos hlt]
      by_cases c : (Utf8.decode s pos).1 = 32
      · obtain ⟨k1, k2⟩ := g3 c
        rw [if_pos (show bl (Utf8.decode s pos).1 = true by unfold bl; rw [c]; rfl), drop_cons _ pos hlt, k2, fld, if_pos rfl, k1]
        cases st with
        | none =>
          have ih := spans_fld s f (pos + 1) none acc (by omega) (by omega) (fun a h => by cases h)
          simpa [openPiece, fl_nil] using ih
        | some a =>
          have hpn := fl_piece (l := s.data.toList) (hst a rfl) hp
          have ih := spans_fld s f (pos + 1) none (acc ++ [(a, pos)]) (by omega) (by omega) (fun a h => by cases h)
          simpa [openPiece, hpn] using ih
      · have hs := take_mem s.data.toList pos (Utf8.decode s pos).2 g1 (g4 c)
        have e0 : s.data.toList.drop pos = (s.data.toList.drop pos).take (Utf8.decode s pos).2 ++ s.data.toList.drop (pos + (Utf8.decode s pos).2) := by
          conv => lhs; rw [← List.take_append_drop (Utf8.decode s pos).2 (s.data.toList.drop pos)]
          rw [List.drop_drop]
        rw [if_neg (show ¬ bl (Utf8.decode s pos).1 = true by unfold bl; simpa using c), e0, fld_skip _ _ _ hs]
        cases st with
        | none =>
          have ih := spans_fld s f (pos + (Utf8.decode s pos).2) (some pos) acc (by omega) g1 (fun a h => by cases h; omega)
          have e : ([] : List UInt8) ++ (s.data.toList.drop pos).take (Utf8.decode s pos).2 = pieceU s.data.toList pos (pos + (Utf8.decode s pos).2) := by
            unfold pieceU
            rw [List.nil_append, Nat.add_sub_cancel_left]
          simp only [openPiece] at ih ⊢
          rw [e]
          exact ih
        | some a =>
          have ih := spans_fld s f (pos + (Utf8.decode s pos).2) (some a) acc (by omega) g1 (fun b h => by cases h; have := hst a rfl; omega)
          simp only [openPiece] at ih ⊢
          rw [pieceU_grow _ _ _ _ (Nat.le_of_lt (hst a rfl))]
          exact ih
    · obtain rfl : pos = s.size := by omega
      have hd : s.data.toList.drop s.size = [] := List.drop_eq_nil_of_le (Nat.le_refl _)
      rw [hd, fld, spansFromP_end bl s _ _ _ _ hlt]
      cases st with
      | none => simp [closeSpans, openPiece, fl_nil]
      | some a =>
        have := fl_piece (l := s.data.toList) (hst a rfl) (Nat.le_refl _)
        simp [closeSpans, openPiece, this]
/-- the pieces are the words -/
theorem fields_words (s : ByteArray) : (goFieldsP bl s).map (fun x => x.data.toList) = fld [] s.data.toList := by
  have h := spans_fld s s.size 0 none [] (by omega) (Nat.zero_le _) (fun a h => by cases h)
  simp only [List.map_nil, List.nil_append, openPiece, List.drop_zero] at h
  unfold goFieldsP spansOfP
  rw [h, List.map_map]
  congr 1
  funext p
  simp [pieceU]

theorem toArray_data (s : ByteArray) : (⟨s.data.toList.toArray⟩ : ByteArray) = s := by cases s; simp
theorem fields_vals (s : ByteArray) : (goFieldsP bl s).map Value.string = (fld [] s.data.toList).map (fun l => Value.string ⟨l.toArray⟩) := by
  rw [← fields_words, List.map_map]
  apply List.map_congr_left
  intro x _
  show Value.string x = Value.string ⟨x.data.toList.toArray⟩
  rw [toArray_data]
theorem fields_len (s : ByteArray) : (goFieldsP bl s).length = (fld [] s.data.toList).length := by
  rw [← fields_words, List.length_map]

/-- where a byte is found -/
theorem index_no : ∀ (l : Bt) (c : UInt8), indexByte l c = -1 → c ∉ l
  | [], c, _ => by simp
  | b :: l, c, h => by
    unfold indexByte at h
    by_cases e : b = c
    · simp [e] at h
    · have e' : (b == c) = false := by simpa using e
      rw [e'] at h
      simp only [Bool.false_eq_true, if_false] at h
      have hg := indexByte_ge l c
      have h1 : indexByte l c = -1 := by
        by_cases q : indexByte l c = -1
        · exact q
        · have q' : (indexByte l c == -1) = false := by simpa using q
          rw [q'] at h
          simp only [Bool.false_eq_true, if_false] at h
          omega
      have := index_no l c h1
      simp only [List.mem_cons, not_or]
      exact ⟨fun x => e x.symm, this⟩
theorem index_yes : ∀ (l : Bt) (c : UInt8) (i : Nat), indexByte l c = (i : Int) → i < l.length ∧ l = l.take i ++ c :: l.drop (i + 1) ∧ c ∉ l.take i
  | [], c, i, h => by unfold indexByte at h; omega
  | b :: l, c, i, h => by
    unfold indexByte at h
    by_cases e : b = c
    · subst e
      simp only [beq_self_eq_true, if_true] at h
      obtain rfl : i = 0 := by omega
      simp
    · have e' : (b == c) = false := by simpa using e
      rw [e'] at h
      simp only [Bool.false_eq_true, if_false] at h
      by_cases q : indexByte l c = -1
      · have q' : (indexByte l c == -1) = true := by simpa using q
        rw [q'] at h
        simp only [if_true] at h
        omega
      · have q' : (indexByte l c == -1) = false := by simpa using q
        rw [q'] at h
        simp only [Bool.false_eq_true, if_false] at h
        have hg := indexByte_ge l c
        obtain ⟨i', rfl⟩ : ∃ i', i = i' + 1 := ⟨i - 1, by omega⟩
        obtain ⟨a1, a2, a3⟩ := index_yes l c i' (by omega)
        refine ⟨by simp; omega, ?_, ?_⟩
        · simp only [List.take_succ_cons, List.drop_succ_cons, List.cons_append]
          rw [← a2]
        · simp only [List.take_succ_cons, List.mem_cons, not_or]
          exact ⟨fun x => e x.symm, a3⟩
end Go.Proofs.YtadgnafafdfioaaGreatDoor.Lx
