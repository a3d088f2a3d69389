/-
  THE DOCUMENT'S NATURAL NUMBERS. Conditions: each theorem's own.
-/
import Derived.Test.YtadgnafafdfioaaDoorDiv
import Derived.Test.YtadgnafafdfioaaDoorNm
import Derived.Laws.BytesArg
import Derived.Test.YtadgnafafdfioaaDoorOps
namespace Go.Proofs.YtadgnafafdfioaaDoor
section
set_option maxRecDepth 100000
open Go.RowKit Nm
set_option linter.unusedVariables false

def strLen : Value → Nat | .string t => t.size | _ => 0

theorem one_off (t : ByteArray) (h : 0 < t.size) : (t.extract 1 t.size).data.toList = t.data.toList.tail := by
  rw [Lib.extract_data, ← len_data, List.take_of_length_le (by simp), List.drop_one]

theorem cons_of (t : ByteArray) (h : 0 < t.size) : t.data.toList = t[0] :: t.data.toList.tail := by
  have h' : t.data.toList ≠ [] := fun e => by have := len_data t; rw [e] at this; simp at this; omega
  have hh := head_eq h
  match hl : t.data.toList, h' with
  | c :: l, _ => rw [hl] at hh; simp at hh; rw [hh]; rfl

end
end Go.Proofs.YtadgnafafdfioaaDoor
namespace Go.Proofs.YtadgnafafdfioaaDoor
section
set_option maxRecDepth 100000
open Go.RowKit Nm
set_option linter.unusedVariables false

theorem Tryd.info3 : (Tryd.prog.info? 3).map (fun i => (i.zero, i.size, i.bytes)) = some (some (.int .i64 0), 1, 8) := by kernel_rfl

theorem dg_at (s : ByteArray) (i : Nat) (h : i < s.size) : dg s.data.toList i = s[s.size - 1 - i].toNat - 48 := by
  unfold dg
  rw [len_data, if_pos h]
  have h2 : s.size - 1 - i < s.data.toList.length := by rw [len_data]; omega
  have e : s.data.toList.getD (s.size - 1 - i) 0 = s.data.toList[s.size - 1 - i] := by simp only [List.getD, List.getElem?_eq_getElem h2, Option.getD_some]
  rw [e]; rfl

/-- the bytes that are gathered when j digits are told, of n -/
def told (f : Nat → Nat) (n j : Nat) : List Value := (List.range j).map fun t => .int .u8 ((48 + f (n - 1 - t) : Nat) : Int)

theorem told_snoc (f : Nat → Nat) (n j : Nat) : told f n j ++ [.int .u8 ((48 + f (n - 1 - j) : Nat) : Int)] = told f n (j + 1) := by
  unfold told; rw [List.range_succ, List.map_append, List.map_singleton]

theorem own_some {w : World} {base e n : Nat} {v : Value} {xs : List Value} (h : w.ownsRow base e 1 v n xs) (hn : 0 < n) : ∃ g cap, v = .slice (some ⟨g, 0, none⟩) n cap ∧ n ≤ cap ∧ base ≤ g := by
  rcases h.2 with ⟨_, h2⟩ | ⟨g, cap, cur, h1, h2, h3, h4, _⟩
  · omega
  · exact ⟨g, cap, h1, h4, h2⟩

end
end Go.Proofs.YtadgnafafdfioaaDoor
namespace Go.Proofs.YtadgnafafdfioaaDoor
section
set_option maxRecDepth 100000
open Go.RowKit Nm
set_option linter.unusedVariables false

theorem dl_S (x n : Nat) (h : tl x ≤ n) : dl (dg (S x).data.toList) n = x := by
  rw [dl_dg _ n (by rw [len_data, S_size]; exact h), dv_S]

theorem less_bytes : ∀ (l m : List UInt8), Dg l → Dg m → l.length = m.length → Op.bytesLess l m = decide (dv l < dv m) := by
  intro l
  induction l with
  | nil =>
    intro m _ _ h
    have hm : m = [] := List.length_eq_zero_iff.1 (by simpa using h.symm)
    subst hm; rfl
  | cons c l ih =>
    intro m hl hm h
    match m, h with
    | d :: m, h =>
      have h' : l.length = m.length := by simpa using h
      have a1 := dv_lt (l := l) (fun e he => hl e (by simp [he]))
      have a2 := dv_lt (l := m) (fun e he => hm e (by simp [he]))
      have b1 := hl c (by simp)
      have b2 := hm d (by simp)
      simp only [Op.bytesLess]
      rw [dv_cons, dv_cons, h']
      rw [h'] at a1
      generalize 10 ^ m.length = P at *
      rcases Nat.lt_trichotomy c.toNat d.toNat with e | e | e
      · have e' : c < d := e
        have : (c.toNat - 48 + 1) * P ≤ (d.toNat - 48) * P := Nat.mul_le_mul_right _ (by omega)
        rw [Nat.add_mul, Nat.one_mul] at this
        have hd : decide ((c.toNat - 48) * P + dv l < (d.toNat - 48) * P + dv m) = true := decide_eq_true (by omega)
        rw [hd]; simp [e']
      · have e' : c = d := UInt8.toNat_inj.1 e
        subst e'
        rw [ih m (fun e he => hl e (by simp [he])) (fun e he => hm e (by simp [he])) h']
        have hn : ¬ c < c := Nat.lt_irrefl _
        simp [hn]
      · have e1 : ¬ c < d := fun x => by have : c.toNat < d.toNat := x; omega
        have e2 : ¬ c = d := fun x => by subst x; omega
        have : (d.toNat - 48 + 1) * P ≤ (c.toNat - 48) * P := Nat.mul_le_mul_right _ (by omega)
        rw [Nat.add_mul, Nat.one_mul] at this
        have hd : decide ((c.toNat - 48) * P + dv l < (d.toNat - 48) * P + dv m) = false := decide_eq_false (by omega)
        rw [hd]; simp [e1, e2]

theorem less_S {x y : Nat} (h : tl x = tl y) : Op.bytesLess (S x).toList (S y).toList = decide (x < y) := by
  rw [toList_data, toList_data, less_bytes _ _ (rt_dg (rt_S x)) (rt_dg (rt_S y)) (by rw [len_data, len_data, S_size, S_size, h]), dv_S, dv_S]

end
end Go.Proofs.YtadgnafafdfioaaDoor
namespace Go.Proofs.YtadgnafafdfioaaDoor
section
set_option maxRecDepth 100000
open Go.RowKit Nm
set_option linter.unusedVariables false

theorem ext_one (a : ByteArray) (k : Nat) (h : k < a.size) : (a.extract k (k + 1)).data.toList = [a[k]] := by
  rw [Lib.extract_data, show k + 1 - k = 1 by omega]
  have h' : k < a.data.toList.length := by rw [len_data]; exact h
  rw [List.drop_eq_getElem_cons h']
  simp
  rfl

theorem app_toList (s t : ByteArray) : (s ++ t).data.toList = s.data.toList ++ t.data.toList := by simp [ByteArray.data_append]

theorem div_snoc (P c y : Nat) (hy : 0 < y) : (P * 10 + c) / y = P / y * 10 + (P % y * 10 + c) / y ∧ (P * 10 + c) % y = (P % y * 10 + c) % y := by
  have h := Nat.div_add_mod P y
  have e : P * 10 + c = y * (P / y * 10) + (P % y * 10 + c) := by
    have : P * 10 = (y * (P / y) + P % y) * 10 := by rw [h]
    rw [this, Nat.add_mul, Nat.mul_assoc]; omega
  rw [e, Nat.mul_add_div hy, Nat.mul_add_mod]
  exact ⟨rfl, rfl⟩

def strVal : Value → Nat | .string s => dv s.data.toList | _ => 0

theorem str1 (d : Nat) (h : d < 10) : (strOfNums [48 + (d : Int)]).data.toList = [UInt8.ofNat (48 + d)] := by
  rw [strOfNums_data]
  simp only [List.map_cons, List.map_nil]
  rw [show (48 + (d : Int)).toNat = 48 + d by omega]

end
end Go.Proofs.YtadgnafafdfioaaDoor
