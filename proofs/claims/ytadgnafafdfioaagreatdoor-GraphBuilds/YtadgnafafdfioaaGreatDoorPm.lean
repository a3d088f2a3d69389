/-
  STATEMENTS OF A GRAPH's TEXT, AS LISTS OF WORDS: what the document's answer for layer 9 is. Nothing of the program's text is named here. No conditions.
-/
import Derived.Test.YtadgnafafdfioaaGreatDoorRt
import Derived.Test.YtadgnafafdfioaaGreatDoorSp
import Derived.Test.YtadgnafafdfioaaGreatDoorLx
namespace Go.Proofs.YtadgnafafdfioaaGreatDoor.Rd
set_option linter.unusedVariables false

/-- is it this word? -/
def isw (x : ByteArray) (l : List UInt8) : Bool := x.data.toList == l
def str (l : List UInt8) : ByteArray := ⟨l.toArray⟩
theorem isw_eq {x : ByteArray} {l : List UInt8} (h : isw x l = true) : x = ⟨l.toArray⟩ := by
  have h' : x.data.toList = l := by simpa [isw] using h
  subst h'
  cases x; simp
theorem isw_str (l : List UInt8) : isw ⟨l.toArray⟩ l = true := by simp [isw]
theorem isw_list (x : ByteArray) (l : List UInt8) : (x.toList == l) = isw x l := by rw [toList_data]; rfl

abbrev lEq : List UInt8 := [61]
abbrev lParam : List UInt8 := [112, 97, 114, 97, 109]
abbrev lInput : List UInt8 := [105, 110, 112, 117, 116]
abbrev lConst : List UInt8 := [99, 111, 110, 115, 116]
abbrev lLoss : List UInt8 := [108, 111, 115, 115]
abbrev lScale : List UInt8 := [115, 99, 97, 108, 101]
abbrev lPower : List UInt8 := [112, 111, 119, 101, 114]
abbrev lReshape : List UInt8 := [114, 101, 115, 104, 97, 112, 101]
abbrev lSpread : List UInt8 := [115, 112, 114, 101, 97, 100]
/-- add sub mul max above matmul -/
def twos : List (List UInt8) := [[97, 100, 100], [115, 117, 98], [109, 117, 108], [109, 97, 120], [97, 98, 111, 118, 101], [109, 97, 116, 109, 117, 108]]
/-- relu abs step sign transpose sum -/
def ones : List (List UInt8) := [[114, 101, 108, 117], [97, 98, 115], [115, 116, 101, 112], [115, 105, 103, 110], [116, 114, 97, 110, 115, 112, 111, 115, 101], [115, 117, 109]]

/-- how many names an operation takes -/
def ari (x : ByteArray) : Nat :=
  if twos.any (isw x) then 2 else if ones.any (isw x) || isw x lScale || isw x lPower || isw x lReshape || isw x lSpread then 1 else 0
/-- what stands behind them: 1 a rational, 2 a power, 3 dims -/
def knd (x : ByteArray) : Nat := if isw x lScale then 1 else if isw x lPower then 2 else if isw x lReshape || isw x lSpread then 3 else 0

/-- a number of 1 or 2 digits -/
def num : List UInt8 → Option Nat
  | [a] => if Lx.dgt a then some (a.toNat - 48) else none
  | [a, b] => if a ≠ 48 ∧ Lx.dgt a = true ∧ Lx.dgt b = true then some (10 * (a.toNat - 48) + (b.toNat - 48)) else none
  | _ => none
/-- numbers -/
def nus : List ByteArray → Option (List Int)
  | [] => some []
  | x :: l => match num x.data.toList, nus l with
    | some n, some zs => some ((n : Int) :: zs)
    | _, _ => none
/-- dims -/
def dms (l : List ByteArray) : Option (List Int) :=
  match nus l with
  | some zs => if Sp.Rgt zs then some zs else none
  | none => none
def nmb (x : ByteArray) : Bool := Lx.nm x.data.toList

/-- a statement -/
structure Sm where
  name : ByteArray
  op : ByteArray
  args : List ByteArray
  dims : List Int
  k : ByteArray
  n : Nat
  data : List ByteArray
abbrev em : ByteArray := ⟨#[]⟩
def zr : Sm := ⟨em, em, [], [], em, 0, []⟩

/-- behind an operation's names -/
def fin (name op : ByteArray) (args rest : List ByteArray) : Option Sm :=
  if knd op = 3 then (dms rest).map fun d => ⟨name, op, args, d, em, 0, []⟩
  else if knd op = 1 then (match rest with | [x] => if ra x then some ⟨name, op, args, [], x, 0, []⟩ else none | _ => none)
  else if knd op = 2 then (match rest with | [x] => (match num x.data.toList with | some n => if n ≤ 6 then some ⟨name, op, args, [], em, n, []⟩ else none | none => none) | _ => none)
  else (if rest = [] then some ⟨name, op, args, [], em, 0, []⟩ else none)
/-- behind = -/
def opn (name : ByteArray) : List ByteArray → Option Sm
  | [] => none
  | op :: parts => if nmb name = true ∧ ari op ≠ 0 ∧ ari op ≤ parts.length ∧ (parts.take (ari op)).all nmb = true then fin name op (parts.take (ari op)) (parts.drop (ari op)) else none
/-- ahead of the first =, and behind it -/
def cutEq : List ByteArray → Option (List ByteArray × List ByteArray)
  | [] => none
  | x :: l => if isw x lEq then some ([], l) else (cutEq l).map fun p => (x :: p.1, p.2)
def giv (a b : ByteArray) (r : List ByteArray) : Option Sm :=
  match dms r with
  | some d => if nmb b then some ⟨b, a, [], d, em, 0, []⟩ else none
  | none => none
def con (a b : ByteArray) (r : List ByteArray) : Option Sm :=
  match cutEq r with
  | some (x, y) => if nmb b then (match dms x with
    | some d => if y.length = Sp.szI d ∧ y.all ra = true then some ⟨b, a, [], d, em, 0, y⟩ else none
    | none => none) else none
  | none => none
/-- words that are a statement -/
def par : List ByteArray → Option Sm
  | a :: b :: r =>
    if isw b lEq then opn a r
    else if isw a lParam || isw a lInput then giv a b r
    else if isw a lConst then con a b r
    else if isw a lLoss then (if nmb b = true ∧ r = [] then some ⟨em, a, [b], [], em, 0, []⟩ else none)
    else none
  | _ => none

theorem opn_cons (name op : ByteArray) (parts : List ByteArray) : opn name (op :: parts) = if nmb name = true ∧ ari op ≠ 0 ∧ ari op ≤ parts.length ∧ (parts.take (ari op)).all nmb = true then fin name op (parts.take (ari op)) (parts.drop (ari op)) else none := rfl
theorem par_two (a b : ByteArray) (r : List ByteArray) : par (a :: b :: r) =
    if isw b lEq then opn a r
    else if isw a lParam || isw a lInput then giv a b r
    else if isw a lConst then con a b r
    else if isw a lLoss then (if nmb b = true ∧ r = [] then some ⟨em, a, [b], [], em, 0, []⟩ else none)
    else none := rfl
theorem nus_len : ∀ {l : List ByteArray} {zs : List Int}, nus l = some zs → zs.length = l.length
  | [], zs, h => by simp [nus] at h; subst h; rfl
  | x :: l, zs, h => by
    unfold nus at h
    cases h1 : num x.data.toList with
    | none => simp [h1] at h
    | some n => cases h2 : nus l with
      | none => simp [h1, h2] at h
      | some z => simp [h1, h2] at h; subst h; simp [nus_len h2]
theorem dms_some {l : List ByteArray} {d : List Int} (h : dms l = some d) : nus l = some d ∧ Sp.Rgt d := by
  unfold dms at h
  cases h1 : nus l with
  | none => simp [h1] at h
  | some z =>
    simp only [h1] at h
    split at h
    · rename_i hr; cases h; exact ⟨rfl, hr⟩
    · cases h
theorem dms_len {l : List ByteArray} {d : List Int} (h : dms l = some d) : d.length = l.length ∧ l.length ≤ 4 := by
  obtain ⟨h1, h2⟩ := dms_some h
  have := nus_len h1
  exact ⟨this, by have := h2.1; omega⟩
theorem dms_long {l : List ByteArray} (h : 4 < l.length) : dms l = none := by
  cases hd : dms l with
  | none => rfl
  | some d => have := (dms_len hd).2; omega
theorem dms_no {l : List ByteArray} (h : nus l = none) : dms l = none := by simp [dms, h]
theorem dms_of {l : List ByteArray} {zs : List Int} (h : nus l = some zs) : dms l = if Sp.Rgt zs then some zs else none := by simp [dms, h]
/-- number by number -/
theorem nus_take {l : List ByteArray} {k : Nat} {zs : List Int} {n : Nat} (hk : k < l.length) (h : nus (l.take k) = some zs) (hn : num (l.getD k em).data.toList = some n) : nus (l.take (k + 1)) = some (zs ++ [(n : Int)]) := by
  induction l generalizing k zs with
  | nil => simp at hk
  | cons x l ih =>
    cases k with
    | zero =>
      simp [nus] at h; subst h
      simp at hn
      simp [nus, hn]
    | succ k =>
      simp only [List.take_succ_cons] at h ⊢
      unfold nus at h ⊢
      cases h1 : num x.data.toList with
      | none => simp [h1] at h
      | some m => cases h2 : nus (l.take k) with
        | none => simp [h1, h2] at h
        | some z =>
          simp [h1, h2] at h; subst h
          rw [ih (by simpa using hk) h2 (by simpa using hn)]
          simp
theorem nus_none {l : List ByteArray} {k : Nat} (hk : k < l.length) (hn : num (l.getD k em).data.toList = none) : nus l = none := by
  induction l generalizing k with
  | nil => simp at hk
  | cons x l ih =>
    unfold nus
    cases k with
    | zero => simp at hn; simp [hn]
    | succ k =>
      rw [ih (k := k) (by simpa using hk) (by simpa using hn)]
      cases num x.data.toList <;> rfl
theorem num_le {l : List UInt8} {n : Nat} (h : num l = some n) : n ≤ 99 := by
  unfold num at h
  split at h
  · split at h
    · rename_i hd
      unfold Lx.dgt at hd
      simp at hd h; omega
    · cases h
  · split at h
    · rename_i hd
      unfold Lx.dgt at hd
      simp at hd h; omega
    · cases h
  · cases h
theorem cut_none {l : List ByteArray} (h : ∀ i, i < l.length → isw (l.getD i em) lEq = false) : cutEq l = none := by
  induction l with
  | nil => rfl
  | cons x l ih =>
    have h0 := h 0 (by simp)
    simp at h0
    unfold cutEq
    rw [if_neg (by rw [h0]; simp), ih fun i hi => by simpa using h (i + 1) (by simpa using hi)]
    rfl
theorem cut_some {l : List ByteArray} {k : Nat} (hk : k < l.length) (h : ∀ i, i < k → isw (l.getD i em) lEq = false) (he : isw (l.getD k em) lEq = true) : cutEq l = some (l.take k, l.drop (k + 1)) := by
  induction l generalizing k with
  | nil => simp at hk
  | cons x l ih =>
    unfold cutEq
    cases k with
    | zero =>
      simp at he
      rw [if_pos he]; simp
    | succ k =>
      have h0 := h 0 (by omega)
      simp at h0
      rw [if_neg (by rw [h0]; simp), ih (k := k) (by simpa using hk) (fun i hi => by simpa using h (i + 1) (by omega)) (by simpa using he)]
      simp
end Go.Proofs.YtadgnafafdfioaaGreatDoor.Rd
