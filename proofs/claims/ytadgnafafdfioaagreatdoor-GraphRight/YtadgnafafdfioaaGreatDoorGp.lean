/-
  GRAPHS, AS LISTS OF NODES: what the document's answer for layer 10 is. Nothing of the program's text is named here. No conditions.
-/
import Derived.Test.YtadgnafafdfioaaGreatDoorPn
namespace Go.Proofs.YtadgnafafdfioaaGreatDoor.Gr
open Go.Proofs.YtadgnafafdfioaaGreatDoor.Rd
set_option linter.unusedVariables false

abbrev lAdd : List UInt8 := [97, 100, 100]
abbrev lSub : List UInt8 := [115, 117, 98]
abbrev lMul : List UInt8 := [109, 117, 108]
abbrev lMax : List UInt8 := [109, 97, 120]
abbrev lAbove : List UInt8 := [97, 98, 111, 118, 101]
abbrev lMatmul : List UInt8 := [109, 97, 116, 109, 117, 108]
abbrev lRelu : List UInt8 := [114, 101, 108, 117]
abbrev lAbs : List UInt8 := [97, 98, 115]
abbrev lStep : List UInt8 := [115, 116, 101, 112]
abbrev lSign : List UInt8 := [115, 105, 103, 110]
abbrev lTranspose : List UInt8 := [116, 114, 97, 110, 115, 112, 111, 115, 101]
abbrev lSum : List UInt8 := [115, 117, 109]
abbrev noLs : List (List UInt8) := [lParam, lInput, lConst]
abbrev oneLs : List (List UInt8) := [lRelu, lAbs, lStep, lSign, lScale, lPower, lTranspose, lSum, lReshape, lSpread]
abbrev twoLs : List (List UInt8) := [lAdd, lSub, lMul, lMax, lAbove, lMatmul]

/-- a node -/
structure Nd where
  op : ByteArray
  a : Int
  b : Int
  name : ByteArray
  shape : List Int
  k : ByteArray
  n : Int
  data : List ByteArray
def zn : Nd := ⟨em, 0, 0, em, [], em, 0, []⟩

/-- how many parts an operation has -/
def prs (x : ByteArray) : Option Nat :=
  if noLs.any (isw x) then some 0 else if oneLs.any (isw x) then some 1 else if twoLs.any (isw x) then some 2 else none
/-- is it the place of a node? -/
def inl (len : Nat) (A : Int) : Bool := decide (0 ≤ A) && decide (A < (len : Int))
/-- the shape of the node at a place -/
def sha (l : List Nd) (A : Int) : List Int := (l.getD A.toNat zn).shape
/-- the parts are where they should be -/
def pok (m len : Nat) (A B : Int) : Bool :=
  (decide (m ≠ 0) || decide (A = 0)) && (decide (2 ≤ m) || decide (B = 0)) && (decide (m = 0) || inl len A) && (decide (m < 2) || inl len B)
/-- a name, just where there must be one -/
def nok (op name : ByteArray) : Bool := if isw op lParam || isw op lInput then nmb name else decide (name.size = 0)
/-- nothing that it must not have -/
def fok (n : Nd) : Bool := (isw n.op lScale || decide (n.k.size = 0)) && (isw n.op lPower || decide (n.n = 0)) && (isw n.op lConst || decide (n.data.length = 0))
def rgo (s : List Int) : Option (List Int) := if Sp.Rgt s then some s else none
def sac (n : Nd) (a : List Int) : Option (List Int) := if ra n.k = true then rgo a else none
/-- the shape, of the shapes of the parts -/
def own (n : Nd) (a b : List Int) : Option (List Int) :=
  if isw n.op lParam || isw n.op lInput then rgo n.shape
  else if isw n.op lConst then (if Sp.Rgt n.shape ∧ n.data.length = Sp.szI n.shape ∧ n.data.all ra = true then some n.shape else none)
  else if isw n.op lMatmul then (if a.length = 2 ∧ b.length = 2 ∧ a.getD 1 0 = b.getD 0 0 then rgo [a.getD 0 0, b.getD 1 0] else none)
  else if isw n.op lTranspose then (if a.length = 2 then rgo [a.getD 1 0, a.getD 0 0] else none)
  else if isw n.op lSum then some []
  else if isw n.op lScale then (if ra n.k = true then rgo a else none)
  else if isw n.op lPower then (if 0 ≤ n.n ∧ n.n ≤ 6 then rgo a else none)
  else if isw n.op lReshape then (if Sp.Rgt n.shape ∧ Sp.Rgt a ∧ Sp.szI n.shape = Sp.szI a then some n.shape else none)
  else if isw n.op lSpread then (if a.length = 0 then rgo n.shape else none)
  else if twoLs.any (isw n.op) then (if a = b then rgo a else none)
  else rgo a
/-- the shape of a node behind others -/
def shp (l : List Nd) (n : Nd) : Option (List Int) :=
  match prs n.op with
  | some m => if pok m l.length n.a n.b = true ∧ nok n.op n.name = true ∧ fok n = true then own n (if 0 < m then sha l n.a else []) (if 1 < m then sha l n.b else []) else none
  | none => none
/-- is the i-th node right? -/
def nri (l : List Nd) (i : Nat) : Bool :=
  decide (shp (l.take i) (l.getD i zn) = some (l.getD i zn).shape) && (decide ((l.getD i zn).name.size = 0) || (List.range i).all fun k => decide ((l.getD k zn).name ≠ (l.getD i zn).name))
def nrs (l : List Nd) : Bool := (List.range l.length).all (nri l)
/-- is the graph right? -/
def grt (l : List Nd) (loss : Int) : Bool :=
  decide (1 ≤ l.length) && decide (l.length ≤ 200) && inl l.length loss && decide ((sha l loss).length = 0) && nrs l

/-! ## what follows -/
theorem rgo_some {s t : List Int} (h : rgo s = some t) : t = s ∧ Sp.Rgt s := by
  unfold rgo at h
  split at h
  · cases h; exact ⟨rfl, ‹_›⟩
  · cases h
theorem rgo_if {p : Prop} [Decidable p] {s t : List Int} (h : (if p then rgo s else none) = some t) : Sp.Rgt t := by
  by_cases c : p
  · rw [if_pos c] at h
    obtain ⟨rfl, h1⟩ := rgo_some h
    exact h1
  · rw [if_neg c] at h; cases h
theorem some_if {p : Prop} {s t : List Int} [Decidable (Sp.Rgt s ∧ p)] (h : (if Sp.Rgt s ∧ p then some s else none) = some t) : Sp.Rgt t := by
  by_cases c : Sp.Rgt s ∧ p
  · rw [if_pos c] at h; cases h; exact c.1
  · rw [if_neg c] at h; cases h
theorem all_same {α : Type} {l : List α} {p q : α → Bool} (h : ∀ x ∈ l, p x = q x) : l.all p = l.all q := by
  induction l with
  | nil => rfl
  | cons x l ih => rw [List.all_cons, List.all_cons, h x List.mem_cons_self, ih fun y hy => h y (List.mem_cons_of_mem _ hy)]
theorem own_rgt {n : Nd} {a b s : List Int} (h : own n a b = some s) : Sp.Rgt s := by
  unfold own at h
  by_cases c0 : (isw n.op lParam || isw n.op lInput) = true
  · rw [if_pos c0] at h
    obtain ⟨rfl, h1⟩ := rgo_some h; exact h1
  rw [if_neg c0] at h
  by_cases c1 : isw n.op lConst = true
  · rw [if_pos c1] at h
    exact some_if h
  rw [if_neg c1] at h
  by_cases c2 : isw n.op lMatmul = true
  · rw [if_pos c2] at h
    exact rgo_if h
  rw [if_neg c2] at h
  by_cases c3 : isw n.op lTranspose = true
  · rw [if_pos c3] at h
    exact rgo_if h
  rw [if_neg c3] at h
  by_cases c4 : isw n.op lSum = true
  · rw [if_pos c4] at h
    cases h; exact ⟨by simp, by simp, by decide⟩
  rw [if_neg c4] at h
  by_cases c5 : isw n.op lScale = true
  · rw [if_pos c5] at h
    exact rgo_if h
  rw [if_neg c5] at h
  by_cases c6 : isw n.op lPower = true
  · rw [if_pos c6] at h
    exact rgo_if h
  rw [if_neg c6] at h
  by_cases c7 : isw n.op lReshape = true
  · rw [if_pos c7] at h
    exact some_if h
  rw [if_neg c7] at h
  by_cases c8 : isw n.op lSpread = true
  · rw [if_pos c8] at h
    exact rgo_if h
  rw [if_neg c8] at h
  by_cases c9 : twoLs.any (isw n.op) = true
  · rw [if_pos c9] at h
    exact rgo_if h
  rw [if_neg c9] at h
  obtain ⟨rfl, h1⟩ := rgo_some h; exact h1
theorem shp_some {l : List Nd} {n : Nd} {s : List Int} (h : shp l n = some s) :
    ∃ m, prs n.op = some m ∧ pok m l.length n.a n.b = true ∧ nok n.op n.name = true ∧ fok n = true ∧ own n (if 0 < m then sha l n.a else []) (if 1 < m then sha l n.b else []) = some s := by
  unfold shp at h
  split at h
  · rename_i m hm
    split at h
    · rename_i hc
      exact ⟨m, hm, hc.1, hc.2.1, hc.2.2, h⟩
    · cases h
  · cases h
theorem shp_rgt {l : List Nd} {n : Nd} {s : List Int} (h : shp l n = some s) : Sp.Rgt s := by
  obtain ⟨m, _, _, _, _, h⟩ := shp_some h
  exact own_rgt h
theorem inl_more {k k' : Nat} {A : Int} (h : inl k A = true) (hk : k ≤ k') : inl k' A = true := by
  simp [inl] at h ⊢; omega
theorem sha_more {l r : List Nd} {A : Int} (h : inl l.length A = true) : sha (l ++ r) A = sha l A := by
  simp [inl] at h
  unfold sha
  rw [List.getD_eq_getElem?_getD, List.getD_eq_getElem?_getD, List.getElem?_append_left (by omega)]
theorem pok_more {m k k' : Nat} {A B : Int} (h : pok m k A B = true) (hk : k ≤ k') : pok m k' A B = true := by
  unfold pok at h ⊢
  simp only [Bool.and_eq_true, Bool.or_eq_true] at h ⊢
  refine ⟨⟨h.1.1, ?_⟩, ?_⟩
  · rcases h.1.2 with c | c
    · exact .inl c
    · exact .inr (inl_more c hk)
  · rcases h.2 with c | c
    · exact .inl c
    · exact .inr (inl_more c hk)
theorem pok_a {m k : Nat} {A B : Int} (h : pok m k A B = true) (hm : 0 < m) : inl k A = true := by
  unfold pok at h
  simp only [Bool.and_eq_true, Bool.or_eq_true, decide_eq_true_eq] at h
  rcases h.1.2 with c | c
  · omega
  · exact c
theorem pok_b {m k : Nat} {A B : Int} (h : pok m k A B = true) (hm : 1 < m) : inl k B = true := by
  unfold pok at h
  simp only [Bool.and_eq_true, Bool.or_eq_true, decide_eq_true_eq] at h
  rcases h.2 with c | c
  · omega
  · exact c
theorem shp_more {l r : List Nd} {n : Nd} {s : List Int} (h : shp l n = some s) : shp (l ++ r) n = some s := by
  obtain ⟨m, h1, h2, h3, h4, h5⟩ := shp_some h
  unfold shp
  rw [h1]
  simp only
  rw [if_pos ⟨pok_more h2 (by simp), h3, h4⟩]
  have e1 : (if 0 < m then sha (l ++ r) n.a else []) = (if 0 < m then sha l n.a else []) := by
    by_cases c : 0 < m
    · rw [if_pos c, if_pos c, sha_more (pok_a h2 c)]
    · rw [if_neg c, if_neg c]
  have e2 : (if 1 < m then sha (l ++ r) n.b else []) = (if 1 < m then sha l n.b else []) := by
    by_cases c : 1 < m
    · rw [if_pos c, if_pos c, sha_more (pok_b h2 c)]
    · rw [if_neg c, if_neg c]
  rw [e1, e2, h5]
/-- where the right nodes stand -/
theorem nri_at {l : List Nd} (h : nrs l = true) {i : Nat} (hi : i < l.length) : nri l i = true := by
  unfold nrs at h
  rw [List.all_eq_true] at h
  exact h i (List.mem_range.2 hi)
theorem nri_shp {l : List Nd} {i : Nat} (h : nri l i = true) : shp (l.take i) (l.getD i zn) = some (l.getD i zn).shape := by
  unfold nri at h
  simp only [Bool.and_eq_true, decide_eq_true_eq] at h
  exact h.1
theorem nri_take {l : List Nd} {i k : Nat} (hi : i < k) (hk : k ≤ l.length) : nri (l.take k) i = nri l i := by
  have e : ∀ j, j < k → (l.take k).getD j zn = l.getD j zn := fun j hj => by
    rw [List.getD_eq_getElem?_getD, List.getD_eq_getElem?_getD, List.getElem?_take, if_pos hj]
  unfold nri
  rw [e i hi, List.take_take, Nat.min_eq_left (by omega)]
  congr 2
  have : ∀ j ∈ List.range i, decide (((l.take k).getD j zn).name ≠ (l.getD i zn).name) = decide ((l.getD j zn).name ≠ (l.getD i zn).name) := fun j hj => by
    rw [e j (by have := List.mem_range.1 hj; omega)]
  exact all_same this
theorem nrs_snoc {l : List Nd} {n : Nd} : nrs (l ++ [n]) = (nrs l && nri (l ++ [n]) l.length) := by
  unfold nrs
  rw [List.length_append, List.length_singleton, List.range_succ, List.all_append]
  simp only [List.all_cons, List.all_nil, Bool.and_true]
  congr 1
  have : ∀ i ∈ List.range l.length, nri (l ++ [n]) i = nri l i := fun i hi => by
    have hi := List.mem_range.1 hi
    have := nri_take (l := l ++ [n]) (i := i) (k := l.length) hi (by simp)
    rw [List.take_left'] at this
    · exact this.symm
    · rfl
  exact all_same this
theorem nri_snoc {l : List Nd} {n : Nd} : nri (l ++ [n]) l.length = (decide (shp l n = some n.shape) && (decide (n.name.size = 0) || l.all fun x => decide (x.name ≠ n.name))) := by
  unfold nri
  have e1 : (l ++ [n]).getD l.length zn = n := by simp [List.getD]
  have e2 : (l ++ [n]).take l.length = l := by simp
  rw [e1, e2]
  congr 2
  rw [Bool.eq_iff_iff, List.all_eq_true, List.all_eq_true]
  constructor
  · intro h x hx
    obtain ⟨i, hi, rfl⟩ := List.getElem_of_mem hx
    have := h i (List.mem_range.2 hi)
    rw [List.getD_eq_getElem?_getD, List.getElem?_append_left hi, List.getElem?_eq_getElem hi] at this
    exact this
  · intro h i hi
    have hi := List.mem_range.1 hi
    rw [List.getD_eq_getElem?_getD, List.getElem?_append_left hi, List.getElem?_eq_getElem hi]
    exact h _ (List.getElem_mem hi)
end Go.Proofs.YtadgnafafdfioaaGreatDoor.Gr
