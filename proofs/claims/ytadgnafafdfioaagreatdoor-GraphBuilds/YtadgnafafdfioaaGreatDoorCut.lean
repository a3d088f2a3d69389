/-
  Cut AT ONE BYTE, Clone, AND THE WORDS OF A LINE. Conditions: each theorem's own.
-/
import Derived.Test.YtadgnafafdfioaaGreatDoorChecked
import Derived.Test.YtadgnafafdfioaaGreatDoorLy
import Derived.Test.YtadgnafafdfioaaGreatDoorMl
import Derived.Test.YtadgnafafdfioaaGreatDoorSh
import Derived.WalkKit
import Derived.WalkSpells
import Derived.WalkLawsBesides
namespace Go.Proofs.YtadgnafafdfioaaGreatDoor.Lx
set_option maxRecDepth 100000
open Go.RowKit
set_option linter.unusedVariables false

/-- what Cut tells apart at the byte c -/
def Part (s : ByteArray) (c : UInt8) (a b : ByteArray) (f : Bool) : Prop :=
  (f = false ∧ a = s ∧ b = ⟨#[]⟩ ∧ c ∉ s.data.toList) ∨ (f = true ∧ s.data.toList = a.data.toList ++ c :: b.data.toList ∧ c ∉ a.data.toList)

theorem below_drewN (w : World) (n : Nat) : Below w.heap.size w (w.drewN n) := ⟨rfl, rfl, rfl, Nat.le_refl _, fun _ _ => rfl⟩
theorem extract_list (s : ByteArray) (a b : Nat) : (s.extract a b).data.toList = (s.data.toList.drop a).take (b - a) := by
  cases s
  simp
theorem extract_take (s : ByteArray) (i : Nat) (h : i ≤ s.size) : (s.extract 0 i).data.toList = s.data.toList.take i := by
  rw [extract_list]; simp
theorem extract_drop (s : ByteArray) (i : Nat) : (s.extract i s.size).data.toList = s.data.toList.drop i := by
  rw [extract_list, List.take_of_length_le (by rw [List.length_drop]; exact Nat.le_refl _)]

theorem lcut_any (s : ByteArray) (c : UInt8) (w : World) (hs : s.size ≤ 1000000) : Calls Tryz.prog 56 #[.string s, .string ⟨#[c]⟩] w fun e w' => ∃ a b f, e = .returned (.tuple #[.string a, .string b, .bool f]) ∧ Part s c a b f ∧ Below w.heap.size w w' := by
  have hc1 : (⟨#[c]⟩ : ByteArray).size = 1 := rfl
  have hge := Lib.indexByte_ge s.data.toList c
  by_cases h : Lib.indexByte s.data.toList c = -1
  · have hno := index_no s.data.toList c h
    have H : Hid (c ∉ s.data.toList) := hno
    clear hno
    go_enter Tryz.func56, Tryz.ntmps56
    go_wp2_with fail
    refine (index_one s c _).mono ?_
    rintro e w' ⟨rfl, rfl⟩
    rw [h]
    go_wp2
    go_ret3
    exact ⟨_, _, _, rfl, Or.inl ⟨rfl, rfl, rfl, H.out⟩, Below.refl _ _⟩
  · obtain ⟨i, hi⟩ : ∃ i : Nat, Lib.indexByte s.data.toList c = (i : Int) := ⟨(Lib.indexByte s.data.toList c).toNat, by omega⟩
    obtain ⟨k1, k2, k3⟩ := index_yes s.data.toList c i hi
    have k1' : i < s.size := k1
    have H : Hid (Part s c (s.extract 0 i) (s.extract (i + 1) s.size) true) := Or.inr ⟨rfl, by rw [extract_take s i (by omega), extract_drop]; exact k2, by rw [extract_take s i (by omega)]; exact k3⟩
    clear k1 k2 k3 h hge
    have c1 : (0 : Int) ≤ ↑i := by omega
    have c2 : (↑i : Int) ≤ ↑s.size := by omega
    have c3 : (0 : Int) ≤ ↑i + 1 := by omega
    have c4 : (↑i + 1 : Int) ≤ ↑s.size := by omega
    go_enter Tryz.func56, Tryz.ntmps56
    go_wp2_with fail
    refine (index_one s c _).mono ?_
    rintro e w' ⟨rfl, rfl⟩
    rw [hi]
    go_wp2_with fail
    go_region
    go_wp2
    go_ret3
    exact ⟨_, _, _, rfl, H.out, below_drewN _ _⟩
theorem cut_any (s : ByteArray) (c : UInt8) (w : World) (hs : s.size ≤ 1000000) : Calls Tryz.prog 44 #[.string s, .string ⟨#[c]⟩] w fun e w' => ∃ a b f, e = .returned (.tuple #[.string a, .string b, .bool f]) ∧ Part s c a b f ∧ Below w.heap.size w w' := by
  go_enter Tryz.func44, Tryz.ntmps44
  go_wp2_with fail
  refine (lcut_any s c _ hs).mono ?_
  rintro e w' ⟨a, b, f, rfl, hP, hB⟩
  go_wp2
  go_ret3
  exact ⟨_, _, _, rfl, hP, hB⟩
theorem sclone_any (s : ByteArray) (w : World) (hs : s.size ≤ 1000000) : Calls Tryz.prog 59 #[.string s] w fun e w' => e = .returned (.string s) ∧ Below w.heap.size w w' := by
  have k := clone_lib s w (by omega)
  go_enter Tryz.func59, Tryz.ntmps59
  go_wp2_with fail
  refine k.mono ?_
  rintro e w' ⟨rfl, hB⟩
  go_wp2
  go_ret
  exact ⟨rfl, hB⟩
/-- the blank, as a function value -/
theorem blank_pays (w : World) : PredAt Tryz.prog 58 #[] encR bl w := fun W r _ => by
  unfold FnGives bl
  by_cases h : r = 32
  · subst h
    go_enter Tryz.func58, Tryz.ntmps58
    go_wp2
    go_ret
    exact ⟨rfl, 0, rfl⟩
  · have h1 : ((r : Int) == 32) = false := by simp; omega
    have h2 : (r == 32) = false := by simpa using h
    rw [h2]
    go_enter Tryz.func58, Tryz.ntmps58
    go_wp2
    go_ret
    exact ⟨rfl, 0, rfl⟩
theorem list_at (l : List Bt) (k : Nat) (h : k < l.length) : ∃ x, l[k]? = some x := ⟨l[k], List.getElem?_eq_getElem h⟩
theorem set_same {α : Type} (l : List α) (i : Nat) (x : α) (h : l[i]? = some x) : l.set i x = l := by
  obtain ⟨hi, e⟩ := List.getElem?_eq_some_iff.1 h
  apply List.ext_getElem?
  intro j
  by_cases c : i = j
  · subst c; rw [List.getElem?_set_self hi, h]
  · rw [List.getElem?_set_ne c]
theorem fld_len : ∀ (l w : Bt), (fld w l).length ≤ l.length + 1
  | [], w => by rw [fld]; unfold fl; split <;> simp
  | b :: l, w => by
    rw [fld]
    split
    · have := fld_len l []
      have h1 : (fl w).length ≤ 1 := by unfold fl; split <;> simp
      simp only [List.length_append, List.length_cons]; omega
    · have := fld_len l (w ++ [b]); simp only [List.length_cons]; omega
theorem fl_mem {w x : Bt} (h : x ∈ fl w) : x = w := by
  unfold fl at h
  split at h
  · simp at h
  · simpa using h
theorem fld_size : ∀ (l w x : Bt), x ∈ fld w l → x.length ≤ w.length + l.length
  | [], w, x, h => by rw [fld] at h; rw [fl_mem h]; simp
  | b :: l, w, x, h => by
    rw [fld] at h
    split at h
    · rcases List.mem_append.1 h with h | h
      · rw [fl_mem h]; simp
      · have := fld_size l [] x h
        simp only [List.length_nil, List.length_cons] at *; omega
    · have := fld_size l _ x h
      simp only [List.length_append, List.length_cons, List.length_nil] at *; omega
theorem Part.line {s a b : ByteArray} {f : Bool} (h : Part s 35 a b f) (h10 : 10 ∉ s.data.toList) (n : Nat) : tl n [] [] false s.data.toList = ln1 n (fld [] a.data.toList) := by
  rcases h with ⟨_, rfl, _, h35⟩ | ⟨_, he, h35⟩
  · rw [tl_line _ _ _ _ (fun b hb => ⟨fun e => h10 (e ▸ hb), fun e => h35 (e ▸ hb)⟩)]; rfl
  · rw [he] at h10 ⊢
    rw [tl_cut _ _ _ _ _ (fun b hb => ⟨fun e => h10 (by rw [← e]; simp [hb]), fun e => h35 (e ▸ hb)⟩) (fun b hb e => h10 (by rw [← e]; simp [hb]))]; rfl
theorem Part.len {s a b : ByteArray} {c : UInt8} {f : Bool} (h : Part s c a b f) : a.size + b.size ≤ s.size ∧ (f = true → a.size + b.size + 1 = s.size) := by
  rcases h with ⟨rfl, rfl, rfl, _⟩ | ⟨_, h, _⟩
  · exact ⟨Nat.le_refl _, fun h => by cases h⟩
  · have := congrArg List.length h
    have h1 : s.data.toList.length = s.size := rfl
    have h2 : a.data.toList.length = a.size := rfl
    have h3 : b.data.toList.length = b.size := rfl
    rw [List.length_append, List.length_cons] at this
    omega
/-- the words of a line: what stands ahead of # -/
theorem words_any (s : ByteArray) (w : World) (hs : s.size ≤ 1000000) : Calls Tryz.prog 45 #[.string s] w fun e w' => ∃ u ws, e = .returned u ∧ w'.ownsRow w.heap.size 9 1 u ws.length (wv ws) ∧ (10 ∉ s.data.toList → ∀ n, tl n [] [] false s.data.toList = ln1 n ws) ∧ ws.length ≤ s.size + 1 ∧ Below w.heap.size w w' := by
  have eg := enters_of Tryz.func58 (by kernel_rfl) rfl
  go_enter Tryz.func45, Tryz.ntmps45
  go_wp2_with fail
  refine (cut_any s 35 _ hs).mono ?_
  rintro e w1 ⟨a, b, f, rfl, hP, hB1⟩
  have ha : a.size ≤ s.size := by have := hP.len.1; omega
  have HP : Hid (Part s 35 a b f) := hP
  clear hP
  go_wp2_with fail
  refine (fields_lib 58 #[] eg bl a _ (by omega) (blank_pays _)).mono ?_
  rintro e w2 ⟨A, rfl, hA, hown, hB2⟩
  rw [fields_len, fields_vals] at hown
  rw [fields_len]
  obtain ⟨ws, hws⟩ : ∃ ws, fld [] a.data.toList = ws := ⟨_, rfl⟩
  have HW : Hid (fld [] a.data.toList = ws) := hws
  have hsz : ∀ x ∈ ws, x.length ≤ s.size := by
    intro x hx
    have := fld_size a.data.toList [] x (by rw [hws]; exact hx)
    have h2 : a.data.toList.length = a.size := rfl
    simp only [List.length_nil] at this; omega
  have HZ : Hid (∀ x ∈ ws, x.length ≤ s.size) := hsz
  have hwl : ws.length ≤ s.size + 1 := by
    have := fld_len a.data.toList []
    have h2 : a.data.toList.length = a.size := rfl
    rw [hws] at this; omega
  rw [hws] at hown ⊢
  have hown' : w2.ownsRow w.heap.size 9 1 (.slice (some ⟨A, 0, none⟩) ws.length ws.length) ws.length (wv ws) := own_mono hown hB1.size
  have hB : Below w.heap.size w w2 := hB1.trans (hB2.mono hB1.size)
  have hA' : w.heap.size ≤ A := Nat.le_trans hB1.size hA
  have HF : Hid (10 ∉ s.data.toList → ∀ n, tl n [] [] false s.data.toList = ln1 n ws) := fun h n => by rw [HP.out.line h n, HW.out]
  clear hws hsz hown hB1 hB2 HP HW
  go_wp2_with fail
  go_loopw [19] (fun i wr => ∃ k : Nat, k ≤ ws.length ∧ i = .int .i64 (k : Int) ∧ wr.ownsRow w.heap.size 9 1 (.slice (some ⟨A, 0, none⟩) ws.length ws.length) ws.length (wv ws) ∧ Below w.heap.size w wr) (fun i _ => ws.length - (intOf i).toNat)
  case atStart => exact ⟨0, Nat.zero_le _, rfl, hown', hB⟩
  case round =>
    obtain ⟨k, hk, rfl, hown, hBr⟩ := hrel
    by_cases hkl : k < ws.length
    · obtain ⟨x, hx⟩ := list_at ws k hkl
      have hxl := HZ.out x (List.mem_of_getElem? hx)
      have hv : (wv ws)[k]? = some (tx x) := by unfold wv; rw [List.getElem?_map, hx]; rfl
      have hc : wr.cell? ⟨A, k, none⟩ = some (.string ⟨x.toArray⟩) := by rw [hown.cellAt k (by omega)]; exact hv
      have HV : Hid ((wv ws).set k (tx x) = wv ws) := set_same _ _ _ hv
      have hfr := hown.frozenAt k
      have hxs : (⟨x.toArray⟩ : ByteArray).size = x.length := rfl
      clear hx hv
      go_wp2_with fail
      refine (sclone_any _ _ (by rw [hxs]; omega)).mono ?_
      rintro e w3 ⟨rfl, hB3⟩
      have hAl : A < wr.heap.size := (hown.lt A rfl).2
      have hown3 := own_below hown hB3
      have hc3 : w3.cell? ⟨A, k, none⟩ = some (.string ⟨x.toArray⟩) := by rw [hB3.cell (p := ⟨A, k, none⟩) hAl]; exact hc
      have hfr3 := hown3.frozenAt k
      have hst := (hown3.stored k (tx x)).1
      rw [HV.out] at hst
      have hB4 : Below w.heap.size w w3 := hBr.trans (hB3.mono hBr.size)
      clear hc hfr hown hown3 hB3
      go_wp2
      go_roundw
      case rel => exact ⟨k + 1, by omega, by go_num, hst, hB4.setCell (p := ⟨A, k, none⟩) hA' _⟩
      case measure => simp [intOf]; omega
    · obtain rfl : k = ws.length := by omega
      go_wp2
      go_ret
      exact ⟨_, _, rfl, hown, HF.out, hwl, hBr⟩
end Go.Proofs.YtadgnafafdfioaaGreatDoor.Lx
