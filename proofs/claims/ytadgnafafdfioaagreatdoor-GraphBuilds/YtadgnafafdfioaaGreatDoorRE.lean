/-
  WHAT THE LIBRARY TELLS APART IS WHAT THE DOCUMENT TELLS APART: the pieces of FieldsFunc at the blank are the words; where IndexByte finds a byte. Nothing of the program's text is named here. No conditions.
-/
import Derived.Test.YtadgnafafdfioaaGreatDoorLx
import Derived.Lib.FieldsP
import Derived.Lib.Bytealg
import Derived.Shelf.LaysM
import Derived.Shelf.Strconv.Clone
import Derived.Shelf.Strings.Search2
import Derived.Shelf.Strings.FieldsFuncAny
import Derived.Test.YtadgnafafdfioaaGreatDoorProg
import Derived.Test.YtadgnafafdfioaaGreatDoorChecked
import Derived.Test.YtadgnafafdfioaaGreatDoorMl
import Derived.WalkKit
import Derived.WalkSpells
import Derived.WalkLawsBesides
namespace Go.Proofs.YtadgnafafdfioaaGreatDoor.Lx
open Go.Lib
set_option linter.unusedVariables false

theorem rune_facts (n b0 b1 b2 b3 : Nat) (hn : 1 ≤ n) :
    ((decodeN n b0 b1 b2 b3).1 = 32 ↔ b0 = 32) ∧ (b0 = 32 → (decodeN n b0 b1 b2 b3).2 = 1) ∧ (2 ≤ (decodeN n b0 b1 b2 b3).2 → b1 / 64 = 2) ∧ (3 ≤ (decodeN n b0 b1 b2 b3).2 → b2 / 64 = 2) ∧ (4 ≤ (decodeN n b0 b1 b2 b3).2 → b3 / 64 = 2) ∧
    1 ≤ (decodeN n b0 b1 b2 b3).2 ∧ (decodeN n b0 b1 b2 b3).2 ≤ 4 ∧ (decodeN n b0 b1 b2 b3).2 ≤ n := by
  unfold decodeN
  repeat' split
  all_goals (refine ⟨⟨fun h => ?_, fun h => ?_⟩, fun h => ?_, fun h => ?_, fun h => ?_, fun h => ?_, ?_, ?_, ?_⟩ <;> simp only at * <;> omega)

/-- a rune at a place: a blank, or bytes that are none -/
theorem rune_at (s : ByteArray) (pos : Nat) (h : pos < s.size) : pos + (Utf8.decode s pos).2 ≤ s.size ∧ 1 ≤ (Utf8.decode s pos).2 ∧
    ((Utf8.decode s pos).1 = 32 → (Utf8.decode s pos).2 = 1 ∧ s.data.toList.getD pos 0 = 32) ∧
    ((Utf8.decode s pos).1 ≠ 32 → ∀ j, j < (Utf8.decode s pos).2 → s.data.toList.getD (pos + j) 0 ≠ 32) := by
  obtain ⟨f1, f2, f3, f4, f5, f6, f7, f8⟩ := rune_facts (s.data.toList.length - pos) (s.data.toList.getD pos 0).toNat (s.data.toList.getD (pos + 1) 0).toNat (s.data.toList.getD (pos + 2) 0).toNat (s.data.toList.getD (pos + 3) 0).toNat (by have : s.data.toList.length = s.size := rfl; omega)
  rw [← decode_N] at f1 f2 f3 f4 f5 f6 f7 f8
  have hl : s.data.toList.length = s.size := rfl
  refine ⟨by omega, f6, fun h32 => ?_, fun hn j hj => ?_⟩
  · have e := f1.1 h32
    exact ⟨f2 e, UInt8.toNat_inj.1 e⟩
  · intro e
    have e' : (s.data.toList.getD (pos + j) 0).toNat = 32 := by rw [e]; rfl
    match j, hj with
    | 0, hj => exact hn (f1.2 (by simpa using e'))
    | 1, hj => have := f3 (by omega); omega
    | 2, hj => have := f4 (by omega); omega
    | 3, hj => have := f5 (by omega); omega
    | j + 4, hj => omega

theorem fld_skip : ∀ (x t w : Bt), (∀ b ∈ x, b ≠ 32) → fld w (x ++ t) = fld (w ++ x) t
  | [], t, w, _ => by simp
  | b :: x, t, w, h => by
    rw [List.cons_append, fld, if_neg (h b (by simp)), fld_skip x t _ (fun y hy => h y (by simp [hy])), List.append_assoc]
    rfl
theorem drop_cons (l : Bt) (pos : Nat) (h : pos < l.length) : l.drop pos = l.getD pos 0 :: l.drop (pos + 1) := by
  rw [List.drop_eq_getElem_cons h, List.getD_eq_getElem?_getD, List.getElem?_eq_getElem h]
  rfl
theorem take_mem (l : Bt) (pos k : Nat) (h : pos + k ≤ l.length) (hn : ∀ j, j < k → l.getD (pos + j) 0 ≠ 32) : ∀ b ∈ (l.drop pos).take k, b ≠ 32 := by
  intro b hb
  obtain ⟨i, hi, rfl⟩ := List.getElem_of_mem hb
  have hi' : i < k := by simp at hi; omega
  have := hn i hi'
  rw [List.getD_eq_getElem?_getD, List.getElem?_eq_getElem (show pos + i < l.length by omega)] at this
  simpa using this
theorem fl_piece {l : Bt} {a pos : Nat} (h : a < pos) (hp : pos ≤ l.length) : fl (pieceU l a pos) = [pieceU l a pos] := fl_ne (pieceU_ne l a pos h hp)

def bl : Nat → Bool := fun r => r == 32

/-- the pass over the runes -/
theorem spans_fld (s : ByteArray) : ∀ (f pos : Nat) (st : Option Nat) (acc : List (Nat × Nat)), s.size ≤ pos + f → pos ≤ s.size → (∀ a, st = some a → a < pos) →
    acc.map (fun p => pieceU s.data.toList p.1 p.2) ++ fld (openPiece s.data.toList st pos) (s.data.toList.drop pos) = (closeSpans s (spansFromP bl s f pos st acc)).map (fun p => pieceU s.data.toList p.1 p.2)
  | 0, pos, st, acc, h, hp, hst => by
    obtain rfl : pos = s.size := by omega
    have hd : s.data.toList.drop s.size = [] := List.drop_eq_nil_of_le (Nat.le_refl _)
    rw [hd, fld]
    cases st with
    | none => simp [spansFromP, closeSpans, openPiece, fl_nil]
    | some a =>
      have := fl_piece (l := s.data.toList) (hst a rfl) (Nat.le_refl _)
      simp [spansFromP, closeSpans, openPiece, this]
  | f + 1, pos, st, acc, h, hp, hst => by
    by_cases hlt : pos < s.size
    · obtain ⟨g1, g2, g3, g4⟩ := rune_at s pos hlt
      simp only [spansFromP, if_pos hlt]
      by_cases c : (Utf8.decode s pos).1 = 32
      · obtain ⟨k1, k2⟩ := g3 c
        rw [if_pos (show bl (Utf8.decode s pos).1 = true by unfold bl; rw [c]; rfl), drop_cons _ pos hlt, k2, fld, if_pos rfl, k1]
        cases st with
        | none =>
          have ih := spans_fld s f (pos + 1) none acc (by omega) (by omega) (fun a h => by cases h)
          simpa [openPiece, fl_nil] using ih
        | some a =>
          have hpn := fl_piece (l := s.data.toList) (hst a rfl) hp
          have ih := spans_fld s f (pos + 1) none (acc ++ [(a, pos)]) (by omega) (by omega) (fun a h => by cases h)
          simpa [openPiece, hpn] using ih
      · have hs := take_mem s.data.toList pos (Utf8.decode s pos).2 g1 (g4 c)
        have e0 : s.data.toList.drop pos = (s.data.toList.drop pos).take (Utf8.decode s pos).2 ++ s.data.toList.drop (pos + (Utf8.decode s pos).2) := by
          conv => lhs; rw [← List.take_append_drop (Utf8.decode s pos).2 (s.data.toList.drop pos)]
          rw [List.drop_drop]
        rw [if_neg (show ¬ bl (Utf8.decode s pos).1 = true by unfold bl; simpa using c), e0, fld_skip _ _ _ hs]
        cases st with
        | none =>
          have ih := spans_fld s f (pos + (Utf8.decode s pos).2) (some pos) acc (by omega) g1 (fun a h => by cases h; omega)
          have e : ([] : List UInt8) ++ (s.data.toList.drop pos).take (Utf8.decode s pos).2 = pieceU s.data.toList pos (pos + (Utf8.decode s pos).2) := by
            unfold pieceU
            rw [List.nil_append, Nat.add_sub_cancel_left]
          simp only [openPiece] at ih ⊢
          rw [e]
          exact ih
        | some a =>
          have ih := spans_fld s f (pos + (Utf8.decode s pos).2) (some a) acc (by omega) g1 (fun b h => by cases h; have := hst a rfl; omega)
          simp only [openPiece] at ih ⊢
          rw [pieceU_grow _ _ _ _ (Nat.le_of_lt (hst a rfl))]
          exact ih
    · obtain rfl : pos = s.size := by omega
      have hd : s.data.toList.drop s.size = [] := List.drop_eq_nil_of_le (Nat.le_refl _)
      rw [hd, fld, spansFromP_end bl s _ _ _ _ hlt]
      cases st with
      | none => simp [closeSpans, openPiece, fl_nil]
      | some a =>
        have := fl_piece (l := s.data.toList) (hst a rfl) (Nat.le_refl _)
        simp [closeSpans, openPiece, this]
/-- the pieces are the words -/
theorem fields_words (s : ByteArray) : (goFieldsP bl s).map (fun x => x.data.toList) = fld [] s.data.toList := by
  have h := spans_fld s s.size 0 none [] (by omega) (Nat.zero_le _) (fun a h => by cases h)
  simp only [List.map_nil, List.nil_append, openPiece, List.drop_zero] at h
  unfold goFieldsP spansOfP
  rw [h, List.map_map]
  congr 1
  funext p
  simp [pieceU]

theorem toArray_data (s : ByteArray) : (⟨s.data.toList.toArray⟩ : ByteArray) = s := by cases s; simp
theorem fields_vals (s : ByteArray) : (goFieldsP bl s).map Value.string = (fld [] s.data.toList).map (fun l => Value.string ⟨l.toArray⟩) := by
  rw [← fields_words, List.map_map]
  apply List.map_congr_left
  intro x _
  show Value.string x = Value.string ⟨x.data.toList.toArray⟩
  rw [toArray_data]
theorem fields_len (s : ByteArray) : (goFieldsP bl s).length = (fld [] s.data.toList).length := by
  rw [← fields_words, List.length_map]

/-- where a byte is found -/
theorem index_no : ∀ (l : Bt) (c : UInt8), indexByte l c = -1 → c ∉ l
  | [], c, _ => by simp
  | b :: l, c, h => by
    unfold indexByte at h
    by_cases e : b = c
    · simp [e] at h
    · have e' : (b == c) = false := by simpa using e
      rw [e'] at h
      simp only [Bool.false_eq_true, if_false] at h
      have hg := indexByte_ge l c
      have h1 : indexByte l c = -1 := by
        by_cases q : indexByte l c = -1
        · exact q
        · have q' : (indexByte l c == -1) = false := by simpa using q
          rw [q'] at h
          simp only [Bool.false_eq_true, if_false] at h
          omega
      have := index_no l c h1
      simp only [List.mem_cons, not_or]
      exact ⟨fun x => e x.symm, this⟩
theorem index_yes : ∀ (l : Bt) (c : UInt8) (i : Nat), indexByte l c = (i : Int) → i < l.length ∧ l = l.take i ++ c :: l.drop (i + 1) ∧ c ∉ l.take i
  | [], c, i, h => by unfold indexByte at h; omega
  | b :: l, c, i, h => by
    unfold indexByte at h
    by_cases e : b = c
    · subst e
      simp only [beq_self_eq_true, if_true] at h
      obtain rfl : i = 0 := by omega
      simp
    · have e' : (b == c) = false := by simpa using e
      rw [e'] at h
      simp only [Bool.false_eq_true, if_false] at h
      by_cases q : indexByte l c = -1
      · have q' : (indexByte l c == -1) = true := by simpa using q
        rw [q'] at h
        simp only [if_true] at h
        omega
      · have q' : (indexByte l c == -1) = false := by simpa using q
        rw [q'] at h
        simp only [Bool.false_eq_true, if_false] at h
        have hg := indexByte_ge l c
        obtain ⟨i', rfl⟩ : ∃ i', i = i' + 1 := ⟨i - 1, by omega⟩
        obtain ⟨a1, a2, a3⟩ := index_yes l c i' (by omega)
        refine ⟨by simp; omega, ?_, ?_⟩
        · simp only [List.take_succ_cons, List.drop_succ_cons, List.cons_append]
          rw [← a2]
        · simp only [List.take_succ_cons, List.mem_cons, not_or]
          exact ⟨fun x => e x.symm, a3⟩
end Go.Proofs.YtadgnafafdfioaaGreatDoor.Lx
/-
  THE LIBRARY's CONTRACTS FOR stringslite.Clone, stringslite.Index AT ONE BYTE, strings.FieldsFunc, laid at this program: each laying is a field a fact of the program's own or the kernel's comparison; each contract is one application. Conditions: each theorem's own.
-/
namespace Go.Proofs.YtadgnafafdfioaaGreatDoor.Lx
open Go.Shelf Go.RowKit Go.Lib
def renClone : Go.Shelf.Ren := ⟨fun | 316 => 75 | n => n, fun | 9 => 9 | 3 => 3 | 4 => 4 | 37 => 103 | 0 => 0 | 127 => 116 | 5 => 5 | n => n, fun | n => n⟩
theorem layClone : Go.Proofs.LaysM.n316 Tryz.prog renClone := {
  mixed := by kernel_rfl
  f316 := Tryz.func75.trans (congrArg some (by kernel_rfl))
  t0 := Tryz.underlying0
  a0 := Tryz.isAgg0
  z0 := Tryz.sizeOf0
  v0 := Tryz.zeroValue0
  t3 := Tryz.underlying3
  a3 := Tryz.isAgg3
  z3 := Tryz.sizeOf3
  v3 := Tryz.zeroValue3
  t4 := Tryz.underlying4
  a4 := Tryz.isAgg4
  z4 := Tryz.sizeOf4
  v4 := Tryz.zeroValue4
  t9 := Tryz.underlying9
  a9 := Tryz.isAgg9
  z9 := Tryz.sizeOf9
  v9 := Tryz.zeroValue9
  t37 := Tryz.underlying103
  a37 := Tryz.isAgg103
  z37 := Tryz.sizeOf103
  v37 := Tryz.zeroValue103
  t127 := Tryz.underlying116
  a127 := Tryz.isAgg116
  z127 := Tryz.sizeOf116
  v127 := Tryz.zeroValue116
  t5 := Tryz.underlying5
  a5 := Tryz.isAgg5
  z5 := Tryz.sizeOf5
  v5 := Tryz.zeroValue5
  i0 := by kernel_rfl
  i3 := by kernel_rfl
  i4 := by kernel_rfl
  i5 := by kernel_rfl
  i9 := by kernel_rfl
  i37 := by kernel_rfl
  i127 := by kernel_rfl }
theorem clone_lib (s : ByteArray) (w : World) (hlim : s.size ≤ 281474976710656) :
    Calls Tryz.prog 75 #[.string s] w fun e w' => e = .returned (.string s) ∧ Below w.heap.size w w' := Any.stringslite_Clone layClone s w hlim
def renIndex : Go.Shelf.Ren := ⟨fun | 219 => 74 | 217 => 87 | 225 => 88 | 224 => 89 | 267 => 90 | 266 => 96 | 314 => 97 | n => n, fun | 9 => 9 | 3 => 3 | 4 => 4 | 5 => 5 | 46 => 115 | 146 => 127 | 51 => 126 | n => n, fun | 1 => 1 | n => n⟩
theorem layIndex : Go.Proofs.Lays.n219 Tryz.prog renIndex := {
  mixed := by kernel_rfl
  f217 := Tryz.func87.trans (congrArg some (by kernel_rfl))
  f219 := Tryz.func74.trans (congrArg some (by kernel_rfl))
  f224 := Tryz.func89.trans (congrArg some (by kernel_rfl))
  f225 := Tryz.func88.trans (congrArg some (by kernel_rfl))
  f266 := Tryz.func96.trans (congrArg some (by kernel_rfl))
  f267 := Tryz.func90.trans (congrArg some (by kernel_rfl))
  f314 := Tryz.func97.trans (congrArg some (by kernel_rfl))
  t3 := Tryz.underlying3
  a3 := Tryz.isAgg3
  z3 := Tryz.sizeOf3
  v3 := Tryz.zeroValue3
  t4 := Tryz.underlying4
  a4 := Tryz.isAgg4
  z4 := Tryz.sizeOf4
  v4 := Tryz.zeroValue4
  t5 := Tryz.underlying5
  a5 := Tryz.isAgg5
  z5 := Tryz.sizeOf5
  v5 := Tryz.zeroValue5
  t9 := Tryz.underlying9
  a9 := Tryz.isAgg9
  z9 := Tryz.sizeOf9
  v9 := Tryz.zeroValue9
  t46 := Tryz.underlying115
  a46 := Tryz.isAgg115
  z46 := Tryz.sizeOf115
  v46 := Tryz.zeroValue115
  t51 := Tryz.underlying126
  a51 := Tryz.isAgg126
  z51 := Tryz.sizeOf126
  v51 := Tryz.zeroValue126
  t146 := Tryz.underlying127
  a146 := Tryz.isAgg127
  z146 := Tryz.sizeOf127
  v146 := Tryz.zeroValue127
  g1 := by kernel_rfl }
theorem index_one (s : ByteArray) (c : UInt8) (w : World) :
    Calls Tryz.prog 74 #[.string s, .string ⟨#[c]⟩] w fun e w' => e = .returned (.int .i64 (Lib.indexByte s.data.toList c)) ∧ w' = w := Any.stringslite_Index_one layIndex s c w
def renFields : Go.Shelf.Ren := ⟨fun | 229 => 57 | n => n, fun | 9 => 9 | 40 => 88 | 31 => 26 | 152 => 104 | 3 => 3 | 0 => 0 | 4 => 4 | 21 => 21 | 154 => 106 | n => n, fun | n => n⟩
theorem layFields : Go.Proofs.Lays.n229 Tryz.prog renFields := {
  mixed := by kernel_rfl
  f229 := Tryz.func57.trans (congrArg some (by kernel_rfl))
  t0 := Tryz.underlying0
  a0 := Tryz.isAgg0
  z0 := Tryz.sizeOf0
  v0 := Tryz.zeroValue0
  t3 := Tryz.underlying3
  a3 := Tryz.isAgg3
  z3 := Tryz.sizeOf3
  v3 := Tryz.zeroValue3
  t4 := Tryz.underlying4
  a4 := Tryz.isAgg4
  z4 := Tryz.sizeOf4
  v4 := Tryz.zeroValue4
  t9 := Tryz.underlying9
  a9 := Tryz.isAgg9
  z9 := Tryz.sizeOf9
  v9 := Tryz.zeroValue9
  t21 := Tryz.underlying21
  a21 := Tryz.isAgg21
  z21 := Tryz.sizeOf21
  v21 := Tryz.zeroValue21
  t31 := Tryz.underlying26
  a31 := Tryz.isAgg26
  z31 := Tryz.sizeOf26
  v31 := Tryz.zeroValue26
  t40 := Tryz.underlying88
  a40 := Tryz.isAgg88
  z40 := Tryz.sizeOf88
  v40 := Tryz.zeroValue88
  t152 := Tryz.underlying104
  a152 := Tryz.isAgg104
  z152 := Tryz.sizeOf104
  v152 := Tryz.zeroValue104
  t154 := Tryz.underlying106
  a154 := Tryz.isAgg106
  z154 := Tryz.sizeOf106
  v154 := Tryz.zeroValue106 }
theorem fields_lib (g : Nat) (lb : Array Value) (eg : ∀ args w, (callFunc g args).run Tryz.prog w = .ok (.enter g args) w) (p : Nat → Bool) (s : ByteArray) (w : World) (hs : s.size ≤ 4294967296) (hp : PredAt Tryz.prog g lb encR p w) :
    Calls Tryz.prog 57 #[.string s, .func (.func g) #[] lb] w fun e w' => ∃ A, e = .returned (.slice (some ⟨A, 0, none⟩) (Lib.goFieldsP p s).length (Lib.goFieldsP p s).length) ∧ w.heap.size ≤ A ∧
      w'.ownsRow w.heap.size 9 1 (.slice (some ⟨A, 0, none⟩) (Lib.goFieldsP p s).length (Lib.goFieldsP p s).length) (Lib.goFieldsP p s).length ((Lib.goFieldsP p s).map Value.string) ∧ Below w.heap.size w w' := Any.strings_FieldsFunc layFields g lb eg p s w hs hp (by kernel_rfl) (by kernel_rfl)
end Go.Proofs.YtadgnafafdfioaaGreatDoor.Lx
/-
  Cut AT ONE BYTE, Clone, AND THE WORDS OF A LINE. Conditions: each theorem's own.
-/
namespace Go.Proofs.YtadgnafafdfioaaGreatDoor.Lx
set_option maxRecDepth 100000
open Go.RowKit
set_option linter.unusedVariables false

/-- what Cut tells apart at the byte c -/
def Part (s : ByteArray) (c : UInt8) (a b : ByteArray) (f : Bool) : Prop :=
  (f = false ∧ a = s ∧ b = ⟨#[]⟩ ∧ c ∉ s.data.toList) ∨ (f = true ∧ s.data.toList = a.data.toList ++ c :: b.data.toList ∧ c ∉ a.data.toList)

theorem below_drewN (w : World) (n : Nat) : Below w.heap.size w (w.drewN n) := ⟨rfl, rfl, rfl, Nat.le_refl _, fun _ _ => rfl⟩
theorem extract_list (s : ByteArray) (a b : Nat) : (s.extract a b).data.toList = (s.data.toList.drop a).take (b - a) := by
  cases s
  simp
theorem extract_take (s : ByteArray) (i : Nat) (h : i ≤ s.size) : (s.extract 0 i).data.toList = s.data.toList.take i := by
  rw [extract_list]; simp
theorem extract_drop (s : ByteArray) (i : Nat) : (s.extract i s.size).data.toList = s.data.toList.drop i := by
  rw [extract_list, List.take_of_length_le (by rw [List.length_drop]; exact Nat.le_refl _)]

theorem lcut_any (s : ByteArray) (c : UInt8) (w : World) (hs : s.size ≤ 1000000) : Calls Tryz.prog 56 #[.string s, .string ⟨#[c]⟩] w fun e w' => ∃ a b f, e = .returned (.tuple #[.string a, .string b, .bool f]) ∧ Part s c a b f ∧ Below w.heap.size w w' := by
  have hc1 : (⟨#[c]⟩ : ByteArray).size = 1 := rfl
  have hge := Lib.indexByte_ge s.data.toList c
  by_cases h : Lib.indexByte s.data.toList c = -1
  · have hno := index_no s.data.toList c h
    have H : Hid (c ∉ s.data.toList) := hno
    clear hno
    go_enter Tryz.func56, Tryz.ntmps56
    go_wp2_with fail
    refine (index_one s c _).mono ?_
    rintro e w' ⟨rfl, rfl⟩
    rw [h]
    go_wp2
    go_ret3
    exact ⟨_, _, _, rfl, Or.inl ⟨rfl, rfl, rfl, H.out⟩, Below.refl _ _⟩
  · obtain ⟨i, hi⟩ : ∃ i : Nat, Lib.indexByte s.data.toList c = (i : Int) := ⟨(Lib.indexByte s.data.toList c).toNat, by omega⟩
    obtain ⟨k1, k2, k3⟩ := index_yes s.data.toList c i hi
    have k1' : i < s.size := k1
    have H : Hid (Part s c (s.extract 0 i) (s.extract (i + 1) s.size) true) := Or.inr ⟨rfl, by rw [extract_take s i (by omega), extract_drop]; exact k2, by rw [extract_take s i (by omega)]; exact k3⟩
    clear k1 k2 k3 h hge
    have c1 : (0 : Int) ≤ ↑i := by omega
    have c2 : (↑i : Int) ≤ ↑s.size := by omega
    have c3 : (0 : Int) ≤ ↑i + 1 := by omega
    have c4 : (↑i + 1 : Int) ≤ ↑s.size := by omega
    go_enter Tryz.func56, Tryz.ntmps56
    go_wp2_with fail
    refine (index_one s c _).mono ?_
    rintro e w' ⟨rfl, rfl⟩
    rw [hi]
    go_wp2_with fail
    go_region
    go_wp2
    go_ret3
    exact ⟨_, _, _, rfl, H.out, below_drewN _ _⟩
theorem cut_any (s : ByteArray) (c : UInt8) (w : World) (hs : s.size ≤ 1000000) : Calls Tryz.prog 44 #[.string s, .string ⟨#[c]⟩] w fun e w' => ∃ a b f, e = .returned (.tuple #[.string a, .string b, .bool f]) ∧ Part s c a b f ∧ Below w.heap.size w w' := by
  go_enter Tryz.func44, Tryz.ntmps44
  go_wp2_with fail
  refine (lcut_any s c _ hs).mono ?_
  rintro e w' ⟨a, b, f, rfl, hP, hB⟩
  go_wp2
  go_ret3
  exact ⟨_, _, _, rfl, hP, hB⟩
theorem sclone_any (s : ByteArray) (w : World) (hs : s.size ≤ 1000000) : Calls Tryz.prog 59 #[.string s] w fun e w' => e = .returned (.string s) ∧ Below w.heap.size w w' := by
  have k := clone_lib s w (by omega)
  go_enter Tryz.func59, Tryz.ntmps59
  go_wp2_with fail
  refine k.mono ?_
  rintro e w' ⟨rfl, hB⟩
  go_wp2
  go_ret
  exact ⟨rfl, hB⟩
/-- the blank, as a function value -/
theorem blank_pays (w : World) : PredAt Tryz.prog 58 #[] encR bl w := fun W r _ => by
  unfold FnGives bl
  by_cases h : r = 32
  · subst h
    go_enter Tryz.func58, Tryz.ntmps58
    go_wp2
    go_ret
    exact ⟨rfl, 0, rfl⟩
  · have h1 : ((r : Int) == 32) = false := by simp; omega
    have h2 : (r == 32) = false := by simpa using h
    rw [h2]
    go_enter Tryz.func58, Tryz.ntmps58
    go_wp2
    go_ret
    exact ⟨rfl, 0, rfl⟩
theorem list_at (l : List Bt) (k : Nat) (h : k < l.length) : ∃ x, l[k]? = some x := ⟨l[k], List.getElem?_eq_getElem h⟩
theorem set_same {α : Type} (l : List α) (i : Nat) (x : α) (h : l[i]? = some x) : l.set i x = l := by
  obtain ⟨hi, e⟩ := List.getElem?_eq_some_iff.1 h
  apply List.ext_getElem?
  intro j
  by_cases c : i = j
  · subst c; rw [List.getElem?_set_self hi, h]
  · rw [List.getElem?_set_ne c]
theorem fld_len : ∀ (l w : Bt), (fld w l).length ≤ l.length + 1
  | [], w => by rw [fld]; unfold fl; split <;> simp
  | b :: l, w => by
    rw [fld]
    split
    · have := fld_len l []
      have h1 : (fl w).length ≤ 1 := by unfold fl; split <;> simp
      simp only [List.length_append, List.length_cons]; omega
    · have := fld_len l (w ++ [b]); simp only [List.length_cons]; omega
theorem fl_mem {w x : Bt} (h : x ∈ fl w) : x = w := by
  unfold fl at h
  split at h
  · simp at h
  · simpa using h
theorem fld_size : ∀ (l w x : Bt), x ∈ fld w l → x.length ≤ w.length + l.length
  | [], w, x, h => by rw [fld] at h; rw [fl_mem h]; simp
  | b :: l, w, x, h => by
    rw [fld] at h
    split at h
    · rcases List.mem_append.1 h with h | h
      · rw [fl_mem h]; simp
      · have := fld_size l [] x h
        simp only [List.length_nil, List.length_cons] at *; omega
    · have := fld_size l _ x h
      simp only [List.length_append, List.length_cons, List.length_nil] at *; omega
theorem Part.line {s a b : ByteArray} {f : Bool} (h : Part s 35 a b f) (h10 : 10 ∉ s.data.toList) (n : Nat) : tl n [] [] false s.data.toList = ln1 n (fld [] a.data.toList) := by
  rcases h with ⟨_, rfl, _, h35⟩ | ⟨_, he, h35⟩
  · rw [tl_line _ _ _ _ (fun b hb => ⟨fun e => h10 (e ▸ hb), fun e => h35 (e ▸ hb)⟩)]; rfl
  · rw [he] at h10 ⊢
    rw [tl_cut _ _ _ _ _ (fun b hb => ⟨fun e => h10 (by rw [← e]; simp [hb]), fun e => h35 (e ▸ hb)⟩) (fun b hb e => h10 (by rw [← e]; simp [hb]))]; rfl
theorem Part.len {s a b : ByteArray} {c : UInt8} {f : Bool} (h : Part s c a b f) : a.size + b.size ≤ s.size ∧ (f = true → a.size + b.size + 1 = s.size) := by
  rcases h with ⟨rfl, rfl, rfl, _⟩ | ⟨_, h, _⟩
  · exact ⟨Nat.le_refl _, fun h => by cases h⟩
  · have := congrArg List.length h
    have h1 : s.data.toList.length = s.size := rfl
    have h2 : a.data.toList.length = a.size := rfl
    have h3 : b.data.toList.length = b.size := rfl
    rw [List.length_append, List.length_cons] at this
    omega
/-- the words of a line: what stands ahead of # -/
theorem words_any (s : ByteArray) (w : World) (hs : s.size ≤ 1000000) : Calls Tryz.prog 45 #[.string s] w fun e w' => ∃ u ws, e = .returned u ∧ w'.ownsRow w.heap.size 9 1 u ws.length (wv ws) ∧ (10 ∉ s.data.toList → ∀ n, tl n [] [] false s.data.toList = ln1 n ws) ∧ ws.length ≤ s.size + 1 ∧ Below w.heap.size w w' := by
  have eg := enters_of Tryz.func58 (by kernel_rfl) rfl
  go_enter Tryz.func45, Tryz.ntmps45
  go_wp2_with fail
  refine (cut_any s 35 _ hs).mono ?_
  rintro e w1 ⟨a, b, f, rfl, hP, hB1⟩
  have ha : a.size ≤ s.size := by have := hP.len.1; omega
  have HP : Hid (Part s 35 a b f) := hP
  clear hP
  go_wp2_with fail
  refine (fields_lib 58 #[] eg bl a _ (by omega) (blank_pays _)).mono ?_
  rintro e w2 ⟨A, rfl, hA, hown, hB2⟩
  rw [fields_len, fields_vals] at hown
  rw [fields_len]
  obtain ⟨ws, hws⟩ : ∃ ws, fld [] a.data.toList = ws := ⟨_, rfl⟩
  have HW : Hid (fld [] a.data.toList = ws) := hws
  have hsz : ∀ x ∈ ws, x.length ≤ s.size := by
    intro x hx
    have := fld_size a.data.toList [] x (by rw [hws]; exact hx)
    have h2 : a.data.toList.length = a.size := rfl
    simp only [List.length_nil] at this; omega
  have HZ : Hid (∀ x ∈ ws, x.length ≤ s.size) := hsz
  have hwl : ws.length ≤ s.size + 1 := by
    have := fld_len a.data.toList []
    have h2 : a.data.toList.length = a.size := rfl
    rw [hws] at this; omega
  rw [hws] at hown ⊢
  have hown' : w2.ownsRow w.heap.size 9 1 (.slice (some ⟨A, 0, none⟩) ws.length ws.length) ws.length (wv ws) := own_mono hown hB1.size
  have hB : Below w.heap.size w w2 := hB1.trans (hB2.mono hB1.size)
  have hA' : w.heap.size ≤ A := Nat.le_trans hB1.size hA
  have HF : Hid (10 ∉ s.data.toList → ∀ n, tl n [] [] false s.data.toList = ln1 n ws) := fun h n => by rw [HP.out.line h n, HW.out]
  clear hws hsz hown hB1 hB2 HP HW
  go_wp2_with fail
  go_loopw [19] (fun i wr => ∃ k : Nat, k ≤ ws.length ∧ i = .int .i64 (k : Int) ∧ wr.ownsRow w.heap.size 9 1 (.slice (some ⟨A, 0, none⟩) ws.length ws.length) ws.length (wv ws) ∧ Below w.heap.size w wr) (fun i _ => ws.length - (intOf i).toNat)
  case atStart => exact ⟨0, Nat.zero_le _, rfl, hown', hB⟩
  case round =>
    obtain ⟨k, hk, rfl, hown, hBr⟩ := hrel
    by_cases hkl : k < ws.length
    · obtain ⟨x, hx⟩ := list_at ws k hkl
      have hxl := HZ.out x (List.mem_of_getElem? hx)
      have hv : (wv ws)[k]? = some (tx x) := by unfold wv; rw [List.getElem?_map, hx]; rfl
      have hc : wr.cell? ⟨A, k, none⟩ = some (.string ⟨x.toArray⟩) := by rw [hown.cellAt k (by omega)]; exact hv
      have HV : Hid ((wv ws).set k (tx x) = wv ws) := set_same _ _ _ hv
      have hfr := hown.frozenAt k
      have hxs : (⟨x.toArray⟩ : ByteArray).size = x.length := rfl
      clear hx hv
      go_wp2_with fail
      refine (sclone_any _ _ (by rw [hxs]; omega)).mono ?_
      rintro e w3 ⟨rfl, hB3⟩
      have hAl : A < wr.heap.size := (hown.lt A rfl).2
      have hown3 := own_below hown hB3
      have hc3 : w3.cell? ⟨A, k, none⟩ = some (.string ⟨x.toArray⟩) := by rw [hB3.cell (p := ⟨A, k, none⟩) hAl]; exact hc
      have hfr3 := hown3.frozenAt k
      have hst := (hown3.stored k (tx x)).1
      rw [HV.out] at hst
      have hB4 : Below w.heap.size w w3 := hBr.trans (hB3.mono hBr.size)
      clear hc hfr hown hown3 hB3
      go_wp2
      go_roundw
      case rel => exact ⟨k + 1, by omega, by go_num, hst, hB4.setCell (p := ⟨A, k, none⟩) hA' _⟩
      case measure => simp [intOf]; omega
    · obtain rfl : k = ws.length := by omega
      go_wp2
      go_ret
      exact ⟨_, _, rfl, hown, HF.out, hwl, hBr⟩
end Go.Proofs.YtadgnafafdfioaaGreatDoor.Lx
/-
  THE PROGRAM's LINES OF ANY TEXT. Conditions: each theorem's own.
-/
namespace Go.Proofs.YtadgnafafdfioaaGreatDoor.Lx
set_option maxRecDepth 100000
open Go.RowKit
set_option linter.unusedVariables false

theorem inf33 : (Tryz.prog.info? 65).map (fun i => (i.zero, i.size, i.bytes)) = some (some (.agg #[.int .i64 0, .slice none 0 0]), 2, 32) := by kernel_rfl
theorem inf9 : (Tryz.prog.info? 9).map (fun i => (i.zero, i.size, i.bytes)) = some (some (.string ⟨#[]⟩), 1, 16) := by kernel_rfl

theorem one_cell_slice (u : Value) (ws : List Bt) {w : World} {b : Nat} (h : w.ownsRow b 9 1 u ws.length (wv ws)) : u.oneCell' = true := by
  rcases h.2 with ⟨rfl, _⟩ | ⟨g, c, cur, rfl, _⟩ <;> rfl

def cutM : Value → Value → Nat
  | .string t, .bool true => t.size + 1
  | .string t, _ => t.size
  | _, _ => 0
theorem cutM_t (t : ByteArray) : cutM (.string t) (.bool true) = t.size + 1 := rfl
theorem cutM_le (t : ByteArray) (f : Bool) : cutM (.string t) (.bool f) ≤ t.size + (if f then 1 else 0) := by cases f <;> exact Nat.le_refl _
/-- a line is cut off, its words are told -/
theorem Part.next {s a b : ByteArray} {f : Bool} {ws : List Bt} (h : Part s 10 a b f) (hw : 10 ∉ a.data.toList → ∀ n, tl n [] [] false a.data.toList = ln1 n ws) (n : Nat) :
    tl n [] [] false s.data.toList = ln1 n ws ++ (if f then tl (n + 1) [] [] false b.data.toList else []) := by
  rcases h with ⟨rfl, rfl, rfl, h10⟩ | ⟨rfl, he, h10⟩
  · rw [hw h10]; simp
  · rw [he, lns_line _ _ (fun x hx e => h10 (e ▸ hx)), hw h10]; simp
theorem lines_any (s : ByteArray) (w : World) (hs : s.size ≤ 100000) : Calls Tryz.prog 29 #[.string s] w fun e w' => ∃ v us, e = .returned v ∧ Ls w' w.heap.size 65 v us (lns s.data.toList) ∧ Below w.heap.size w w' := by
  obtain ⟨R, hR⟩ : ∃ R, lns s.data.toList = R := ⟨_, rfl⟩
  have HR : Hid (tl 1 [] [] false s.data.toList = R) := hR
  rw [hR]
  clear hR
  obtain ⟨i0, hi, hz0, hz1, hz2⟩ := info_parts inf33
  go_enter Tryz.func29, Tryz.ntmps29
  go_wp2_with fail
  go_loopw [0, 3, 4, 5] (fun cu v n mo wr => ∃ (cur : ByteArray) (k : Nat) (us : List (Nat × Value)) (ls : List (Nat × List Bt)) (more : Bool), cu = .string cur ∧ n = .int .i64 ((k : Int) + 1) ∧ mo = .bool more ∧ Ls wr w.heap.size 65 v us ls ∧ Below w.heap.size w wr ∧
    Hid (ls ++ (if more then tl (k + 1) [] [] false cur.data.toList else []) = R) ∧ (cur.size + k ≤ s.size + 1 ∧ (more = true → cur.size + k ≤ s.size)) ∧ ls.length ≤ k) (fun cu _ _ mo _ => cutM cu mo)
  case atStart => exact ⟨s, 0, [], [], true, rfl, rfl, rfl, Ls.nil _ _ _, Below.refl _ _, HR.out, ⟨by omega, fun _ => by omega⟩, by simp⟩
  case round =>
    obtain ⟨cur, k, us, ls, more, rfl, rfl, rfl, hL, hB, HI, ⟨hk1, hk2⟩, hl⟩ := hrel
    cases more with
    | false =>
      obtain rfl : ls = R := by have := HI.out; simpa using this
      go_wp2
      go_ret
      exact ⟨_, _, rfl, hL, hB⟩
    | true =>
      go_wp2_with fail
      refine (cut_any cur 10 _ (by omega)).mono ?_
      rintro e w1 ⟨a, b, f, rfl, hP, hB1⟩
      have hbl := hP.len
      have hk := hk2 (by simp)
      have hnx : b.size + (k + 1) ≤ s.size + 1 ∧ (f = true → b.size + (k + 1) ≤ s.size) := ⟨by omega, fun h => by have := hbl.2 h; omega⟩
      clear hk1 hk2
      have HP : Hid (Part cur 10 a b f) := hP
      clear hP
      go_wp2_with fail
      refine (words_any a _ (by omega)).mono ?_
      rintro e w2 ⟨u, ws, rfl, hown, hw, hwl, hB2⟩
      have HN : Hid (ls ++ (ln1 (k + 1) ws ++ (if f then tl (k + 1 + 1) [] [] false b.data.toList else [])) = R) := by
        have h1 := HI.out
        have h2 := HP.out.next hw (k + 1)
        simp only [if_true] at h1
        rw [h2] at h1
        exact h1
      clear HI HP hw
      have hB12 : Below wr.heap.size wr w2 := hB1.trans (hB2.mono hB1.size)
      have hL2 := hL.below hB12
      have hBw : Below w.heap.size w w2 := hB.trans (hB12.mono hB.size)
      have hO : Ow w2 u ws := own_mono hown (Nat.zero_le _)
      have hu1 := one_cell_slice u ws hown
      obtain ⟨ao, cap, rfl, _, _⟩ := hO.form
      clear hL hB hB1 hB2 hB12 hown
      by_cases hz : 0 < ws.length
      · have hne : ws ≠ [] := fun e => by subst e; simp at hz
        rw [ln1_ne hne] at HN
        go_wp2_with (first | (at_builtin; refine wpList_append_own _ rfl _ _ 62 rfl w.heap.size 65 i0 _ 2 32 Tryz.underlying62 hi hz0 hz1 hz2 rfl (by decide) _ ls.length (flat us) rfl (hL2.own.alloc _) ⟨w2.heap.size, 0, none⟩ 1 1 [.int .i64 ((k : Int) + 1), .slice ao ws.length cap] rfl rfl ?_ ?_ ?_ ?_ ?_ ?_))
        · exact (Row.two (by go_simp) (by go_simp)).news
        · intro x hx
          rcases List.mem_cons.1 hx with rfl | hx
          · rfl
          · rw [List.mem_singleton.1 hx]; exact hu1
        · unfold maxLen; omega
        · omega
        · have := hBw.size; simp; omega
        · intro v' w3 hown3 hgrow _
          have hg2 := (World.grownBy_alloc w2 (.cells #[.int .i64 ((k : Int) + 1), .slice ao ws.length cap] 65) (some 0))
          have hO3 := Ow.below hO ((Below.refl _ w2).alloc (Nat.le_refl _) (.cells #[.int .i64 ((k : Int) + 1), .slice ao ws.length cap] 65))
          have hL3 := (hL2.below ((Below.refl _ w2).alloc (Nat.le_refl _) (.cells #[.int .i64 ((k : Int) + 1), .slice ao ws.length cap] 65))).snoc hO3 (by decide) (n := k + 1) hown3 hgrow
          have hB3 : Below w.heap.size w w3 := (hBw.alloc hBw.size _).grown hgrow (by have := hBw.size; simp; omega) (fun x hx => (hL2.own.lt x hx).1)
          clear hown3 hgrow hg2 hO3 hL2 hBw hO
          go_wp2
          go_roundw
          case rel => exact ⟨b, k + 1, us ++ [(k + 1, .slice ao ws.length cap)], ls ++ [(k + 1, ws)], f, rfl, by go_num, rfl, hL3, hB3, by rw [List.append_assoc]; exact HN, hnx, by simp; omega⟩
          case measure => have := cutM_le b f; rw [cutM_t]; cases f <;> simp at * <;> omega
      · have hws : ws = [] := by cases ws with
          | nil => rfl
          | cons x l => simp at hz
        subst hws
        rw [ln1_nil, List.nil_append] at HN
        go_wp2
        go_roundw
        case rel => exact ⟨b, k + 1, us, ls, f, rfl, by go_num, rfl, hL2, hBw, HN, hnx, by omega⟩
        case measure => have := cutM_le b f; rw [cutM_t]; cases f <;> simp at * <;> omega
end Go.Proofs.YtadgnafafdfioaaGreatDoor.Lx
