/-
  PACKAGE whole. Conditions: each theorem's own.
-/
import Derived.Test.YtadgnafafdfioaaGreatDoorRef
import Derived.Lib.BufferWrite
namespace Go.Proofs.YtadgnafafdfioaaGreatDoor
section
set_option maxRecDepth 100000
open Go.RowKit Nm
set_option linter.unusedVariables false

/-- a side and a size as a number -/
def vl (b : Bool) (n : Nat) : Int := if b then -(n : Int) else n
/-- the text of a whole number -/
def W (z : Int) : ByteArray := if z < 0 then ⟨#[45]⟩ ++ S z.natAbs else S z.natAbs

theorem is0 {n : Nat} (h : n ≠ 0) : ((S n).toList == [48]) = false := by
  have := eqS (x := n) (y := 0) h
  rw [S_lit (n := 0) (l := [48]) (by decide) (by decide)] at this
  rw [show (⟨[48].toArray⟩ : ByteArray).toList = [48] from toList_data _] at this
  exact this
theorem is00 : ((S 0).toList == [48]) = true := by
  rw [S_lit (n := 0) (l := [48]) (by decide) (by decide), toList_data]; rfl

theorem W_neg {n : Nat} (h : 0 < n) : W (vl true n) = ⟨#[45]⟩ ++ S n := by
  unfold W vl; rw [if_pos (by simp; omega)]; simp
theorem W_pos (n : Nat) : W (vl false n) = S n := by
  unfold W vl; rw [if_neg (by simp)]; simp
theorem vl_zero (b : Bool) : vl b 0 = 0 := by cases b <;> rfl
theorem W_zero : W 0 = S 0 := by unfold W; simp
theorem sn_pos {n : Nat} (h : 0 < n) : (vl false n).sign = 1 := Int.sign_eq_one_of_pos (by simp [vl]; omega)
theorem sn_neg {n : Nat} (h : 0 < n) : (vl true n).sign = -1 := Int.sign_eq_neg_one_of_neg (by simp [vl]; omega)
theorem sn_zero (b : Bool) : (vl b 0).sign = 0 := by rw [vl_zero]; rfl

theorem add_size (a b : ByteArray) : (a ++ b).size = a.size + b.size := ByteArray.size_append

/-- a text with a minus ahead -/
def mn (s : ByteArray) : Bool := decide (1 ≤ s.size) && ((s.extract 0 1).toList == [45])
/-- what stands behind it -/
def rest (s : ByteArray) : ByteArray := s.extract 1 s.size

set_option maxHeartbeats 400000 in
theorem has_any (s : ByteArray) (w : World) (hs : s.size ≤ 5000000) :
    Calls Tryz.prog 119 #[.string s, .string ⟨#[45]⟩] w fun e w' => e = .returned (.bool (mn s)) ∧ w' = w := by
  by_cases h : 1 ≤ s.size
  · have HR : Hid (mn s = ((s.extract 0 1).toList == [45])) := by unfold Hid mn; rw [decide_eq_true h]; rfl
    go_enter Tryz.func119, Tryz.ntmps119
    go_wp2
    go_ret
    exact ⟨by rw [HR.out]; rfl, rfl⟩
  · have HR : Hid (mn s = false) := by unfold Hid mn; rw [decide_eq_false h]; rfl
    go_enter Tryz.func119, Tryz.ntmps119
    go_wp2
    go_ret
    exact ⟨by rw [HR.out]; rfl, rfl⟩

set_option maxHeartbeats 400000 in
theorem cut_yes (s : ByteArray) (w : World) (hs : s.size ≤ 5000000) (h : mn s = true) :
    Calls Tryz.prog 98 #[.string s, .string ⟨#[45]⟩] w fun e w' => e = .returned (.tuple #[.string (rest s), .bool true]) ∧ w' = w := by
  have h1 : 1 ≤ s.size := by unfold mn at h; simp at h; exact h.1
  have HM : Hid _ := h
  clear h
  go_enter Tryz.func98, Tryz.ntmps98
  go_wp2_with (first | (go_at_call 119; refine (has_any s _ hs).mono ?_; rintro e w1 ⟨rfl, rfl⟩; rw [show mn s = true from HM.out]) | go_in)
  go_ret2
  exact ⟨rfl, rfl⟩

set_option maxHeartbeats 400000 in
theorem cut_no (s : ByteArray) (w : World) (hs : s.size ≤ 5000000) (h : mn s = false) :
    Calls Tryz.prog 98 #[.string s, .string ⟨#[45]⟩] w fun e w' => e = .returned (.tuple #[.string s, .bool false]) ∧ w' = w := by
  have HM : Hid _ := h
  clear h
  go_enter Tryz.func98, Tryz.ntmps98
  go_wp2_with (first | (go_at_call 119; refine (has_any s _ hs).mono ?_; rintro e w1 ⟨rfl, rfl⟩; rw [show mn s = false from HM.out]) | go_in)
  go_ret2
  exact ⟨rfl, rfl⟩

theorem rest_size (s : ByteArray) : (rest s).size ≤ s.size := by unfold rest; simp [ByteArray.size_extract]

set_option maxHeartbeats 400000 in
theorem parse_neg (s : ByteArray) (w : World) (hs : s.size ≤ 5000000) (h : mn s = true) (hr : rt (rest s).data.toList = true) (h0 : ((rest s).toList == [48]) = false) :
    Calls Tryz.prog 92 #[.string s] w fun e w' => e = .returned (.tuple #[.agg #[.bool true, .string (rest s)], .bool true]) ∧ w' = w.alloc (.cells #[.bool true, .string (rest s)] 119) := by
  have HM : Hid _ := h
  have HR : Hid _ := hr
  have hz := rest_size s
  clear h hr
  go_enter Tryz.func92, Tryz.ntmps92
  go_wp2_with fail
  refine (cut_yes s _ hs HM.out).mono ?_
  rintro e w1 ⟨rfl, rfl⟩
  go_wp2_with fail
  refine (right_is (rest s) true _ (by omega) HR.out).mono ?_
  rintro e w1 ⟨rfl, rfl⟩
  go_wp2
  refine bodyPost_ret (v := .tuple #[.agg #[.bool true, .string (rest s)], .bool true]) (by simp [results, Tryz.results92, go_sem]) rfl ⟨rfl, rfl⟩

set_option maxHeartbeats 400000 in
theorem parse_negz (s : ByteArray) (w : World) (hs : s.size ≤ 5000000) (h : mn s = true) (hr : rt (rest s).data.toList = true) (h0 : ((rest s).toList == [48]) = true) :
    Calls Tryz.prog 92 #[.string s] w fun e w' => e = .returned (.tuple #[.agg #[.bool false, .string ⟨#[]⟩], .bool false]) ∧ w' = w.alloc (.cells #[.bool false, .string ⟨#[]⟩] 119) := by
  have HM : Hid _ := h
  have HR : Hid _ := hr
  have hz := rest_size s
  clear h hr
  go_enter Tryz.func92, Tryz.ntmps92
  go_wp2_with fail
  refine (cut_yes s _ hs HM.out).mono ?_
  rintro e w1 ⟨rfl, rfl⟩
  go_wp2_with fail
  refine (right_is (rest s) true _ (by omega) HR.out).mono ?_
  rintro e w1 ⟨rfl, rfl⟩
  go_wp2
  refine bodyPost_ret (v := .tuple #[.agg #[.bool false, .string ⟨#[]⟩], .bool false]) (by simp [results, Tryz.results92, go_sem]) rfl ⟨rfl, rfl⟩

set_option maxHeartbeats 400000 in
theorem parse_negb (s : ByteArray) (w : World) (hs : s.size ≤ 5000000) (h : mn s = true) (hr : rt (rest s).data.toList = false) :
    Calls Tryz.prog 92 #[.string s] w fun e w' => e = .returned (.tuple #[.agg #[.bool false, .string ⟨#[]⟩], .bool false]) ∧ w' = w.alloc (.cells #[.bool false, .string ⟨#[]⟩] 119) := by
  have HM : Hid _ := h
  have HR : Hid _ := hr
  have hz := rest_size s
  clear h hr
  go_enter Tryz.func92, Tryz.ntmps92
  go_wp2_with fail
  refine (cut_yes s _ hs HM.out).mono ?_
  rintro e w1 ⟨rfl, rfl⟩
  go_wp2_with fail
  refine (right_is (rest s) false _ (by omega) HR.out).mono ?_
  rintro e w1 ⟨rfl, rfl⟩
  go_wp2
  refine bodyPost_ret (v := .tuple #[.agg #[.bool false, .string ⟨#[]⟩], .bool false]) (by simp [results, Tryz.results92, go_sem]) rfl ⟨rfl, rfl⟩

set_option maxHeartbeats 400000 in
theorem parse_pos (s : ByteArray) (w : World) (hs : s.size ≤ 5000000) (h : mn s = false) (hr : rt s.data.toList = true) :
    Calls Tryz.prog 92 #[.string s] w fun e w' => e = .returned (.tuple #[.agg #[.bool false, .string s], .bool true]) ∧ w' = w.alloc (.cells #[.bool false, .string s] 119) := by
  have HM : Hid _ := h
  have HR : Hid _ := hr
  have hz := rest_size s
  clear h hr
  go_enter Tryz.func92, Tryz.ntmps92
  go_wp2_with fail
  refine (cut_no s _ hs HM.out).mono ?_
  rintro e w1 ⟨rfl, rfl⟩
  go_wp2_with fail
  refine (right_is s true _ (by omega) HR.out).mono ?_
  rintro e w1 ⟨rfl, rfl⟩
  go_wp2
  refine bodyPost_ret (v := .tuple #[.agg #[.bool false, .string s], .bool true]) (by simp [results, Tryz.results92, go_sem]) rfl ⟨rfl, rfl⟩

set_option maxHeartbeats 400000 in
theorem parse_posb (s : ByteArray) (w : World) (hs : s.size ≤ 5000000) (h : mn s = false) (hr : rt s.data.toList = false) :
    Calls Tryz.prog 92 #[.string s] w fun e w' => e = .returned (.tuple #[.agg #[.bool false, .string ⟨#[]⟩], .bool false]) ∧ w' = w.alloc (.cells #[.bool false, .string ⟨#[]⟩] 119) := by
  have HM : Hid _ := h
  have HR : Hid _ := hr
  have hz := rest_size s
  clear h hr
  go_enter Tryz.func92, Tryz.ntmps92
  go_wp2_with fail
  refine (cut_no s _ hs HM.out).mono ?_
  rintro e w1 ⟨rfl, rfl⟩
  go_wp2_with fail
  refine (right_is s false _ (by omega) HR.out).mono ?_
  rintro e w1 ⟨rfl, rfl⟩
  go_wp2
  refine bodyPost_ret (v := .tuple #[.agg #[.bool false, .string ⟨#[]⟩], .bool false]) (by simp [results, Tryz.results92, go_sem]) rfl ⟨rfl, rfl⟩

/-- is a text a whole number? -/
def wh (s : ByteArray) : Bool := if mn s then rt (rest s).data.toList && !((rest s).toList == [48]) else rt s.data.toList

theorem first_data (s : ByteArray) : (s.extract 0 1).toList = s.data.toList.take 1 := by
  rw [toList_data]; simp [ByteArray.data_extract]
theorem rest_data (s : ByteArray) : (rest s).data.toList = s.data.toList.drop 1 := by
  unfold rest; simp only [ByteArray.data_extract, Array.toList_extract, List.extract_eq_take_drop]
  rw [List.take_of_length_le]
  rw [List.length_drop, Array.length_toList]; exact Nat.le_refl _
theorem mn_iff (s : ByteArray) : mn s = true ↔ s.data.toList.head? = some 45 := by
  unfold mn
  rw [first_data, ← len_data]
  cases s.data.toList with
  | nil => simp
  | cons c l => simp
theorem ma_data (s : ByteArray) : ((⟨#[45]⟩ : ByteArray) ++ s).data.toList = 45 :: s.data.toList := by simp [ByteArray.data_append]
theorem ba_ext {a b : ByteArray} (h : a.data.toList = b.data.toList) : a = b := by
  cases a with | mk x => cases b with | mk y => simp at h; rw [h]
theorem mn_ma (s : ByteArray) : mn ((⟨#[45]⟩ : ByteArray) ++ s) = true := by rw [mn_iff, ma_data]; rfl
theorem rest_ma (s : ByteArray) : rest ((⟨#[45]⟩ : ByteArray) ++ s) = s := ba_ext (by rw [rest_data, ma_data]; rfl)
theorem of_mn {s : ByteArray} (h : mn s = true) : s = (⟨#[45]⟩ : ByteArray) ++ rest s := by
  apply ba_ext
  rw [ma_data, rest_data]
  rw [mn_iff] at h
  cases hl : s.data.toList with
  | nil => rw [hl] at h; cases h
  | cons c l => rw [hl] at h; simp at h; simp [h]
theorem mn_rt {s : ByteArray} (h : rt s.data.toList = true) : mn s = false := by
  cases hm : mn s with
  | false => rfl
  | true =>
    rw [mn_iff] at hm
    have hd := rt_dg h
    cases hl : s.data.toList with
    | nil => rw [hl] at hm; cases hm
    | cons c l =>
      rw [hl] at hm hd
      simp at hm
      have := hd c (by simp)
      rw [hm] at this
      exact absurd this.1 (by decide)
theorem mn_S (n : Nat) : mn (S n) = false := mn_rt (rt_S n)

theorem vl_W (z : Int) : vl (decide (z < 0)) z.natAbs = z := by
  unfold vl
  by_cases h : z < 0
  · simp [h]; omega
  · simp [h]; omega
theorem W_ng {z : Int} (h : z < 0) : W z = ⟨#[45]⟩ ++ S z.natAbs := by unfold W; rw [if_pos h]
theorem W_nn {z : Int} (h : ¬ z < 0) : W z = S z.natAbs := by unfold W; rw [if_neg h]
theorem W_size (z : Int) : (W z).size ≤ tl z.natAbs + 1 := by
  unfold W; split
  · rw [ByteArray.size_append, S_size]; simp [ByteArray.size]; omega
  · rw [S_size]; omega
theorem tl_W (z : Int) : tl z.natAbs ≤ (W z).size := by
  unfold W; split
  · rw [ByteArray.size_append, S_size]; omega
  · rw [S_size]; omega
theorem wh_W (z : Int) : wh (W z) = true := by
  unfold wh
  by_cases h : z < 0
  · rw [W_ng h, mn_ma, rest_ma, rt_S, is0 (by omega)]; rfl
  · rw [W_nn h, mn_S, rt_S]; rfl
theorem W_of {s : ByteArray} (h : wh s = true) : ∃ z, s = W z := by
  unfold wh at h
  cases hm : mn s with
  | false =>
    rw [hm] at h
    refine ⟨dv s.data.toList, ?_⟩
    rw [W_nn (by omega)]
    exact S_of h
  | true =>
    rw [hm] at h
    have h' : rt (rest s).data.toList = true ∧ ((rest s).toList == [48]) = false := by
      simp only [if_true, Bool.and_eq_true, Bool.not_eq_true'] at h; exact h
    have e := S_of h'.1
    have hz : dv (rest s).data.toList ≠ 0 := by
      intro c
      rw [c] at e
      have := h'.2
      rw [e, is00] at this
      cases this
    refine ⟨-(dv (rest s).data.toList : Int), ?_⟩
    rw [W_ng (by omega), Int.natAbs_neg, Int.natAbs_natCast, ← e]
    exact of_mn hm
theorem W_inj {x y : Int} (h : W x = W y) : x = y := by
  have hm : mn (W x) = mn (W y) := by rw [h]
  have hr : rest (W x) = rest (W y) := by rw [h]
  by_cases a : x < 0 <;> by_cases b : y < 0
  · rw [W_ng a, W_ng b, rest_ma, rest_ma] at hr; have := S_inj hr; omega
  · rw [W_ng a, W_nn b, mn_ma, mn_S] at hm; cases hm
  · rw [W_nn a, W_ng b, mn_ma, mn_S] at hm; cases hm
  · rw [W_nn a, W_nn b] at h; have := S_inj h; omega
theorem eqW {x y : Int} (h : x ≠ y) : ((W x).toList == (W y).toList) = false := by
  rw [toList_data, toList_data]
  apply beq_eq_false_iff_ne.2
  exact fun e => h (W_inj (ba_ext e))

theorem parse_W (z : Int) (w : World) (hz : tl z.natAbs ≤ 2500000) :
    Calls Tryz.prog 92 #[.string (W z)] w fun e w' => e = .returned (.tuple #[.agg #[.bool (decide (z < 0)), .string (S z.natAbs)], .bool true]) ∧ w' = w.alloc (.cells #[.bool (decide (z < 0)), .string (S z.natAbs)] 119) := by
  have hs := W_size z
  by_cases h : z < 0
  · have e : rest (W z) = S z.natAbs := by rw [W_ng h, rest_ma]
    have := parse_neg (W z) w (by omega) (by rw [W_ng h, mn_ma]) (by rw [e, rt_S]) (by rw [e, is0 (by omega)])
    rw [e] at this
    rw [decide_eq_true h]
    exact this
  · have e : W z = S z.natAbs := W_nn h
    have := parse_pos (W z) w (by omega) (by rw [e, mn_S]) (by rw [e, rt_S])
    rw [e] at this
    rw [decide_eq_false h, e]
    exact this

theorem parse_no (s : ByteArray) (w : World) (hs : s.size ≤ 5000000) (h : wh s = false) :
    Calls Tryz.prog 92 #[.string s] w fun e w' => e = .returned (.tuple #[.agg #[.bool false, .string ⟨#[]⟩], .bool false]) ∧ w' = w.alloc (.cells #[.bool false, .string ⟨#[]⟩] 119) := by
  unfold wh at h
  cases hm : mn s with
  | false =>
    rw [hm] at h
    exact parse_posb s w hs hm h
  | true =>
    rw [hm] at h
    cases hr : rt (rest s).data.toList with
    | false => exact parse_negb s w hs hm hr
    | true =>
      rw [hr] at h
      exact parse_negz s w hs hm hr (by simpa using h)

/-- any text, parsed -/
theorem parse_all (s : ByteArray) (w : World) (hs : s.size ≤ 2000000) :
    Calls Tryz.prog 92 #[.string s] w fun e w' => ∃ b t, e = .returned (.tuple #[.agg #[.bool b, .string t], .bool (wh s)]) ∧ w' = w.alloc (.cells #[.bool b, .string t] 119) := by
  cases h : wh s with
  | false => exact (parse_no s w (by omega) h).mono fun e w' hh => ⟨_, _, hh⟩
  | true =>
    obtain ⟨z, rfl⟩ := W_of h
    exact (parse_W z w (by have := tl_W z; omega)).mono fun e w' hh => ⟨_, _, hh⟩
end
end Go.Proofs.YtadgnafafdfioaaGreatDoor
namespace Go.Proofs.YtadgnafafdfioaaGreatDoor
section
set_option maxRecDepth 100000
open Go.RowKit Nm
set_option linter.unusedVariables false

/-- a row of n bytes is made -/
theorem bytes_made (n : Nat) (hn : n ≤ 5000000) : ∃ M : Array Value, M.size = n ∧ ∀ V : World, (Instr.makeSlice 103 (.int .i64 (n : Int)) (.int .i64 (n : Int))).run Tryz.prog V = .ok (.slice (some ⟨V.heap.size, 0, none⟩) n n) (V.alloc (.cells M 5)) := by
  obtain ⟨i0, hi, h0, h1, h2⟩ := info_parts Tryz.info5
  refine ⟨madeCells (Value.int .u8 0).cells (n * i0.size), by rw [size_madeCells, h1]; simp, fun V => ?_⟩
  rw [run_make V 103 5 i0 (.int .u8 0) Tryz.underlying103 hi h0 .i64 .i64 n n (by omega) (Int.le_refl _) (by rw [h2]; omega) (by omega), Int.toNat_natCast]

/-- the bytes of a text are laid into a row of that length -/
theorem bytes_laid (V : World) (g : Nat) (s : ByteArray) (M : Array Value) (hM : M.size = s.size) (hg : V.heap[g]? = some (.cells M 5)) :
    Sem.run Tryz.prog (Builtin.copy_ #[103, 9] 3 #[.slice (some ⟨g, 0, none⟩) s.size s.size, .string s]) V = .ok (goInt s.size) (V.setRow g (Lib.byteCells s.data.toList).toArray) := by
  obtain ⟨i0, hi, _, h1, _⟩ := info_parts Tryz.info5
  rw [Lib.run_copy_row_string V 103 9 3 5 g 0 s.size s.size s M 5 Tryz.underlying103 (by rw [hi]; exact congrArg some h1) hg (Nat.le_refl _) (by omega)]
  have e : M.toList.drop (0 + s.size) = [] := List.drop_of_length_le (by rw [Array.length_toList]; omega)
  rw [e, List.take_zero, List.nil_append, List.append_nil]

/-- such a row, told as a text -/
theorem bytes_told (V : World) (g : Nat) (s : ByteArray) (h0 : 0 < s.size) (hs : s.size ≤ 5000000) (hg : V.heap[g]? = some (.cells (Lib.byteCells s.data.toList).toArray 5)) :
    Sem.run Tryz.prog (Builtin.unsafeString_ #[116, 3] 9 #[.pointer (some ⟨g, 0, none⟩), .int .i64 (s.size : Int)]) V = .ok (.string s) (V.freeze ⟨g, 0, none⟩ s.size) := by
  obtain ⟨i0, hi, _, h1, _⟩ := info_parts Tryz.info5
  have hl : s.data.toList.length = s.size := len_data s
  have hc : (Lib.byteCells s.data.toList).toArray.size = s.size := by rw [List.size_toArray, Lib.byteCells_length, hl]
  have h := Lib.run_unsafeString_row (P := Tryz.prog) V 116 3 9 5 Tryz.underlying116 (by unfold Program.cellsOf; rw [hi]; exact h1) g s.size (by unfold World.shape?; rw [hg]; simp only [hc]) s.data.toList
    (by intro c; rw [c] at hl; simp at hl; omega) (by omega) (by omega)
    (fun j x hx => Lib.cells_of_row hg s.size j _ (by rw [List.take_of_length_le (by rw [List.toList_toArray, Lib.byteCells_length]; omega), List.toList_toArray]; simp [Lib.byteCells, hx]))
  rw [hl] at h
  exact h

set_option maxHeartbeats 2000000 in
set_option maxRecDepth 100000 in
theorem cloneIn_any (s : ByteArray) (w : World) (hs : s.size ≤ 5000000) (h0 : 0 < s.size) :
    Calls Tryz.prog 75 #[.string s] w fun e w' => e = .returned (.string s) ∧ Below w.heap.size w w' := by
  obtain ⟨M, hM, hmake⟩ := bytes_made s.size hs
  have hg := heap_alloc_new w (.cells M 5)
  have hcopy := bytes_laid (w.alloc (.cells M 5)) w.heap.size s M hM hg
  have htell := bytes_told ((w.alloc (.cells M 5)).setRow w.heap.size (Lib.byteCells s.data.toList).toArray) w.heap.size s h0 hs (setRow_heap _ _ M _ 5 (0, 0) hg)
  have hq : ((s.size : Int) == 0) = false := beq_eq_false_iff_ne.2 (by omega)
  have HB : Hid (Below w.heap.size w ((w.alloc (.cells M 5)).setRow w.heap.size (Lib.byteCells s.data.toList).toArray)) :=
    ((Below.refl _ w).alloc (Nat.le_refl _) _).trans ⟨rfl, rfl, rfl, by simp, fun k hk => setRow_other _ _ _ _ (by omega)⟩
  generalize (Lib.byteCells s.data.toList).toArray = Y at *
  clear hg
  go_enter Tryz.func75, Tryz.ntmps75
  go_wp2
  go_ret
  exact ⟨rfl, Lib.below_freeze HB.out (Nat.le_refl _) _⟩

set_option maxHeartbeats 1000000 in
theorem cloneStr_any (s : ByteArray) (w : World) (hs : s.size ≤ 5000000) (h0 : 0 < s.size) :
    Calls Tryz.prog 59 #[.string s] w fun e w' => e = .returned (.string s) ∧ Below w.heap.size w w' := by
  go_enter Tryz.func59, Tryz.ntmps59
  go_wp2_with fail
  refine (cloneIn_any s _ hs h0).mono ?_
  rintro e w1 ⟨rfl, HB⟩
  go_wp2
  go_ret
  exact ⟨rfl, HB⟩
end
end Go.Proofs.YtadgnafafdfioaaGreatDoor
namespace Go.Proofs.YtadgnafafdfioaaGreatDoor
section
set_option maxRecDepth 100000
open Go.RowKit Nm
set_option linter.unusedVariables false

theorem bl_alloc {w v : World} (h : Below w.heap.size w v) (o : Obj) : Below w.heap.size w (v.alloc o) := h.alloc h.size o
theorem bl_drew {w v : World} (h : Below w.heap.size w v) : Below w.heap.size w v.drew := Below.drew h

/-- what three new blocks hold behind a call that leaves them -/
theorem keep3 {w v : World} {a b c : Array Value} {r s t : TypeId} {B : Nat} (h : Below B (((w.alloc (.cells a r)).alloc (.cells b s)).alloc (.cells c t)) v) (hB : w.heap.size + 1 + 1 < B) :
    (∀ i, v.cell? ⟨w.heap.size, i, none⟩ = a[i]?) ∧ (∀ i, v.cell? ⟨w.heap.size + 1, i, none⟩ = b[i]?) ∧ (∀ i, v.cell? ⟨w.heap.size + 1 + 1, i, none⟩ = c[i]?) ∧ (∀ i, v.frozen? ⟨w.heap.size + 1 + 1, i, none⟩ = false) := by
  refine ⟨fun i => ?_, fun i => ?_, fun i => ?_, fun i => ?_⟩
  · rw [h.cell (by show w.heap.size < B; omega), World.cell?_alloc_past _ _ _ (by simp; omega), World.cell?_alloc_past _ _ _ (by simp), World.cell?_alloc_at _ _ _ _ rfl]
  · rw [h.cell (by show w.heap.size + 1 < B; omega), World.cell?_alloc_past _ _ _ (by simp), World.cell?_alloc_at _ _ _ _ (by simp)]
  · rw [h.cell (by show w.heap.size + 1 + 1 < B; omega), World.cell?_alloc_at _ _ _ _ (by simp)]
  · rw [h.frozen (by show w.heap.size + 1 + 1 < B; omega), World.frozen?_alloc_at _ _ _ _ (by simp)]

theorem bl_trans {w v u : World} (h : Below w.heap.size w v) (k : Below v.heap.size v u) : Below w.heap.size w u := h.trans (k.mono h.size)

theorem vl_abs (b : Bool) (n : Nat) : (vl b n).natAbs = n := by cases b <;> simp [vl]
theorem vl_not (b : Bool) (n : Nat) : vl (!b) n = - vl b n := by cases b <;> simp [vl]
theorem vl_mul (b c : Bool) (n m : Nat) : vl (!(b == c)) (n * m) = vl b n * vl c m := by
  cases b <;> cases c <;> simp [vl, Int.neg_mul, Int.mul_neg]
theorem vl_same (b : Bool) (n m : Nat) : vl b (n + m) = vl b n + vl b m := by cases b <;> simp [vl] <;> omega
theorem vl_ge {b c : Bool} {n m : Nat} (h : b = !c) (hl : m ≤ n) : vl b (n - m) = vl b n + vl c m := by subst h; cases c <;> simp [vl] <;> omega
theorem vl_lt {b c : Bool} {n m : Nat} (h : b = !c) (hl : n < m) : vl c (m - n) = vl b n + vl c m := by subst h; cases c <;> simp [vl] <;> omega

/-- what two new blocks hold behind a call that leaves them -/
theorem keep2 {w v : World} {a b : Array Value} {r s : TypeId} {B : Nat} (h : Below B ((w.alloc (.cells a r)).alloc (.cells b s)) v) (hB : w.heap.size + 1 < B) :
    (∀ i, v.cell? ⟨w.heap.size, i, none⟩ = a[i]?) ∧ (∀ i, v.cell? ⟨w.heap.size + 1, i, none⟩ = b[i]?) := by
  refine ⟨fun i => ?_, fun i => ?_⟩
  · rw [h.cell (by show w.heap.size < B; omega), World.cell?_alloc_past _ _ _ (by simp), World.cell?_alloc_at _ _ _ _ rfl]
  · rw [h.cell (by show w.heap.size + 1 < B; omega), World.cell?_alloc_at _ _ _ _ (by simp)]

theorem sg_bd (a b : Int) : -1 ≤ sg a b ∧ sg a b ≤ 1 := by unfold sg; split; omega; split <;> omega
theorem sn_bd (a : Int) : -1 ≤ a.sign ∧ a.sign ≤ 1 := by
  rcases Int.lt_trichotomy a 0 with h | h | h
  · rw [Int.sign_eq_neg_one_of_neg h]; omega
  · subst h; simp
  · rw [Int.sign_eq_one_of_pos h]; omega
/-- signs that differ tell which is less -/
theorem sg_sign {x y : Int} (h : sg x.sign y.sign ≠ 0) : sg x.sign y.sign = sg x y := by
  rcases Int.lt_trichotomy x 0 with a | a | a <;> rcases Int.lt_trichotomy y 0 with b | b | b
  all_goals first | subst a | skip
  all_goals first | subst b | skip
  all_goals first | rw [Int.sign_eq_neg_one_of_neg a] at h ⊢ | rw [Int.sign_eq_one_of_pos a] at h ⊢ | skip
  all_goals first | rw [Int.sign_eq_neg_one_of_neg b] at h ⊢ | rw [Int.sign_eq_one_of_pos b] at h ⊢ | skip
  all_goals first | exact absurd rfl h | (rw [sg_lt (by omega)]; rfl) | (rw [sg_gt (a := x) (by omega)]; rfl) | (rw [sg_lt (a := x) (by omega)]; rfl) | (rw [sg_gt (a := 0) (by omega)]; rfl) | (rw [sg_lt (a := 0) (by omega)]; rfl)
/-- where they are the same the sizes tell it -/
theorem sg_size {x y : Int} (h : sg x.sign y.sign = 0) : sg x.natAbs y.natAbs * x.sign = sg x y := by
  have e : x.sign = y.sign := by
    unfold sg at h
    split at h
    · cases h
    · split at h
      · cases h
      · omega
  rcases Int.lt_trichotomy x 0 with a | a | a
  · rw [Int.sign_eq_neg_one_of_neg a] at e ⊢
    have b : y < 0 := Int.sign_eq_neg_one_iff_neg.1 e.symm
    unfold sg
    have h1 : ((x.natAbs : Int) < (y.natAbs : Int)) ↔ y < x := by omega
    have h2 : ((y.natAbs : Int) < (x.natAbs : Int)) ↔ x < y := by omega
    simp only [h1, h2]
    split <;> split <;> omega
  · subst a
    have b : y = 0 := Int.sign_eq_zero_iff_zero.1 (by rw [← e]; rfl)
    subst b; rfl
  · rw [Int.sign_eq_one_of_pos a] at e ⊢
    have b : 0 < y := Int.sign_eq_one_iff_pos.1 e.symm
    unfold sg
    have h1 : ((x.natAbs : Int) < (y.natAbs : Int)) ↔ x < y := by omega
    have h2 : ((y.natAbs : Int) < (x.natAbs : Int)) ↔ y < x := by omega
    simp only [h1, h2, Int.mul_one]

set_option maxHeartbeats 1000000 in
theorem Rightw_is (s : ByteArray) (w : World) (hs : s.size ≤ 2000000) :
    Calls Tryz.prog 81 #[.string s] w fun e w' => e = .returned (.bool (wh s)) ∧ Below w.heap.size w w' := by
  have HX : Hid _ := hs
  clear hs
  go_enter Tryz.func81, Tryz.ntmps81
  go_wp2_with fail
  refine (parse_all s _ HX.out).mono ?_
  rintro e w1 ⟨b, t, rfl, rfl⟩
  go_wp2
  go_ret
  refine ⟨rfl, ?_⟩
  repeat' (first | exact Below.refl _ _ | apply bl_alloc | apply bl_drew)

theorem W_gt (z : Int) : 0 < (W z).size := by have := tl_W z; have := tl_pos z.natAbs; omega

end
end Go.Proofs.YtadgnafafdfioaaGreatDoor
