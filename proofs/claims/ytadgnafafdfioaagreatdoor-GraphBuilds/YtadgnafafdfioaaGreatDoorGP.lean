/-
  GRAPHS, AS LISTS OF NODES: what the document's answer for layer 10 is. Nothing of the program's text is named here. No conditions.
-/
import Derived.Test.YtadgnafafdfioaaGreatDoorPn
namespace Go.Proofs.YtadgnafafdfioaaGreatDoor.Gr
open Go.Proofs.YtadgnafafdfioaaGreatDoor.Rd
set_option linter.unusedVariables false

abbrev lAdd : List UInt8 := [97, 100, 100]
abbrev lSub : List UInt8 := [115, 117, 98]
abbrev lMul : List UInt8 := [109, 117, 108]
abbrev lMax : List UInt8 := [109, 97, 120]
abbrev lAbove : List UInt8 := [97, 98, 111, 118, 101]
abbrev lMatmul : List UInt8 := [109, 97, 116, 109, 117, 108]
abbrev lRelu : List UInt8 := [114, 101, 108, 117]
abbrev lAbs : List UInt8 := [97, 98, 115]
abbrev lStep : List UInt8 := [115, 116, 101, 112]
abbrev lSign : List UInt8 := [115, 105, 103, 110]
abbrev lTranspose : List UInt8 := [116, 114, 97, 110, 115, 112, 111, 115, 101]
abbrev lSum : List UInt8 := [115, 117, 109]
abbrev noLs : List (List UInt8) := [lParam, lInput, lConst]
abbrev oneLs : List (List UInt8) := [lRelu, lAbs, lStep, lSign, lScale, lPower, lTranspose, lSum, lReshape, lSpread]
abbrev twoLs : List (List UInt8) := [lAdd, lSub, lMul, lMax, lAbove, lMatmul]

/-- a node -/
structure Nd where
  op : ByteArray
  a : Int
  b : Int
  name : ByteArray
  shape : List Int
  k : ByteArray
  n : Int
  data : List ByteArray
def zn : Nd := ⟨em, 0, 0, em, [], em, 0, []⟩

/-- how many parts an operation has -/
def prs (x : ByteArray) : Option Nat :=
  if noLs.any (isw x) then some 0 else if oneLs.any (isw x) then some 1 else if twoLs.any (isw x) then some 2 else none
/-- is it the place of a node? -/
def inl (len : Nat) (A : Int) : Bool := decide (0 ≤ A) && decide (A < (len : Int))
/-- the shape of the node at a place -/
def sha (l : List Nd) (A : Int) : List Int := (l.getD A.toNat zn).shape
/-- the parts are where they should be -/
def pok (m len : Nat) (A B : Int) : Bool :=
  (decide (m ≠ 0) || decide (A = 0)) && (decide (2 ≤ m) || decide (B = 0)) && (decide (m = 0) || inl len A) && (decide (m < 2) || inl len B)
/-- a name, just where there must be one -/
def nok (op name : ByteArray) : Bool := if isw op lParam || isw op lInput then nmb name else decide (name.size = 0)
/-- nothing that it must not have -/
def fok (n : Nd) : Bool := (isw n.op lScale || decide (n.k.size = 0)) && (isw n.op lPower || decide (n.n = 0)) && (isw n.op lConst || decide (n.data.length = 0))
def rgo (s : List Int) : Option (List Int) := if Sp.Rgt s then some s else none
def sac (n : Nd) (a : List Int) : Option (List Int) := if ra n.k = true then rgo a else none
/-- the shape, of the shapes of the parts -/
def own (n : Nd) (a b : List Int) : Option (List Int) :=
  if isw n.op lParam || isw n.op lInput then rgo n.shape
  else if isw n.op lConst then (if Sp.Rgt n.shape ∧ n.data.length = Sp.szI n.shape ∧ n.data.all ra = true then some n.shape else none)
  else if isw n.op lMatmul then (if a.length = 2 ∧ b.length = 2 ∧ a.getD 1 0 = b.getD 0 0 then rgo [a.getD 0 0, b.getD 1 0] else none)
  else if isw n.op lTranspose then (if a.length = 2 then rgo [a.getD 1 0, a.getD 0 0] else none)
  else if isw n.op lSum then some []
  else if isw n.op lScale then (if ra n.k = true then rgo a else none)
  else if isw n.op lPower then (if 0 ≤ n.n ∧ n.n ≤ 6 then rgo a else none)
  else if isw n.op lReshape then (if Sp.Rgt n.shape ∧ Sp.Rgt a ∧ Sp.szI n.shape = Sp.szI a then some n.shape else none)
  else if isw n.op lSpread then (if a.length = 0 then rgo n.shape else none)
  else if twoLs.any (isw n.op) then (if a = b then rgo a else none)
  else rgo a
/-- the shape of a node behind others -/
def shp (l : List Nd) (n : Nd) : Option (List Int) :=
  match prs n.op with
  | some m => if pok m l.length n.a n.b = true ∧ nok n.op n.name = true ∧ fok n = true then own n (if 0 < m then sha l n.a else []) (if 1 < m then sha l n.b else []) else none
  | none => none
/-- is the i-th node right? -/
def nri (l : List Nd) (i : Nat) : Bool :=
  decide (shp (l.take i) (l.getD i zn) = some (l.getD i zn).shape) && (decide ((l.getD i zn).name.size = 0) || (List.range i).all fun k => decide ((l.getD k zn).name ≠ (l.getD i zn).name))
def nrs (l : List Nd) : Bool := (List.range l.length).all (nri l)
/-- is the graph right? -/
def grt (l : List Nd) (loss : Int) : Bool :=
  decide (1 ≤ l.length) && decide (l.length ≤ 200) && inl l.length loss && decide ((sha l loss).length = 0) && nrs l

/-! ## what follows -/
theorem rgo_some {s t : List Int} (h : rgo s = some t) : t = s ∧ Sp.Rgt s := by
  unfold rgo at h
  split at h
  · cases h; exact ⟨rfl, ‹_›⟩
  · cases h
theorem rgo_if {p : Prop} [Decidable p] {s t : List Int} (h : (if p then rgo s else none) = some t) : Sp.Rgt t := by
  by_cases c : p
  · rw [if_pos c] at h
    obtain ⟨rfl, h1⟩ := rgo_some h
    exact h1
  · rw [if_neg c] at h; cases h
theorem some_if {p : Prop} {s t : List Int} [Decidable (Sp.Rgt s ∧ p)] (h : (if Sp.Rgt s ∧ p then some s else none) = some t) : Sp.Rgt t := by
  by_cases c : Sp.Rgt s ∧ p
  · rw [if_pos c] at h; cases h; exact c.1
  · rw [if_neg c] at h; cases h
theorem all_same {α : Type} {l : List α} {p q : α → Bool} (h : ∀ x ∈ l, p x = q x) : l.all p = l.all q := by
  induction l with
  | nil => rfl
  | cons x l ih => rw [List.all_cons, List.all_cons, h x List.mem_cons_self, ih fun y hy => h y (List.mem_cons_of_mem _ hy)]
theorem own_rgt {n : Nd} {a b s : List Int} (h : own n a b = some s) : Sp.Rgt s := by
  unfold own at h
  by_cases c0 : (isw n.op lParam || isw n.op lInput) = true
  · rw [if_pos c0] at h
    obtain ⟨rfl, h1⟩ := rgo_some h; exact h1
  rw [if_neg c0] at h
  by_cases c1 : isw n.op lConst = true
  · rw [if_pos c1] at h
    exact some_if h
  rw [if_neg c1] at h
  by_cases c2 : isw n.op lMatmul = true
  · rw [if_pos c2] at h
    exact rgo_if h
  rw [if_neg c2] at h
  by_cases c3 : isw n.op lTranspose = true
  · rw [if_pos c3] at h
    exact rgo_if h
  rw [if_neg c3] at h
  by_cases c4 : isw n.op lSum = true
  · rw [if_pos c4] at h
    cases h; exact ⟨by simp, by simp, by decide⟩
  rw [if_neg c4] at h
  by_cases c5 : isw n.op lScale = true
  · rw [if_pos c5] at h
    exact rgo_if h
  rw [if_neg c5] at h
  by_cases c6 : isw n.op lPower = true
  · rw [if_pos c6] at h
    exact rgo_if h
  rw [if_neg c6] at h
  by_cases c7 : isw n.op lReshape = true
  · rw [if_pos c7] at h
    exact some_if h
  rw [if_neg c7] at h
  by_cases c8 : isw n.op lSpread = true
  · rw [if_pos c8] at h
    exact rgo_if h
  rw [if_neg c8] at h
  by_cases c9 : twoLs.any (isw n.op) = true
  · rw [if_pos c9] at h
    exact rgo_if h
  rw [if_neg c9] at h
  obtain ⟨rfl, h1⟩ := rgo_some h; exact h1
theorem shp_some {l : List Nd} {n : Nd} {s : List Int} (h : shp l n = some s) :
    ∃ m, prs n.op = some m ∧ pok m l.length n.a n.b = true ∧ nok n.op n.name = true ∧ fok n = true ∧ own n (if 0 < m then sha l n.a else []) (if 1 < m then sha l n.b else []) = some s := by
  unfold shp at h
  split at h
  · rename_i m hm
    split at h
    · rename_i hc
      exact ⟨m, hm, hc.1, hc.2.1, hc.2.2, h⟩
    · cases h
  · cases h
theorem shp_rgt {l : List Nd} {n : Nd} {s : List Int} (h : shp l n = some s) : Sp.Rgt s := by
  obtain ⟨m, _, _, _, _, h⟩ := shp_some h
  exact own_rgt h
theorem inl_more {k k' : Nat} {A : Int} (h : inl k A = true) (hk : k ≤ k') : inl k' A = true := by
  simp [inl] at h ⊢; omega
theorem sha_more {l r : List Nd} {A : Int} (h : inl l.length A = true) : sha (l ++ r) A = sha l A := by
  simp [inl] at h
  unfold sha
  rw [List.getD_eq_getElem?_getD, List.getD_eq_getElem?_getD, List.getElem?_append_left (by omega)]
theorem pok_more {m k k' : Nat} {A B : Int} (h : pok m k A B = true) (hk : k ≤ k') : pok m k' A B = true := by
  unfold pok at h ⊢
  simp only [Bool.and_eq_true, Bool.or_eq_true] at h ⊢
  refine ⟨⟨h.1.1, ?_⟩, ?_⟩
  · rcases h.1.2 with c | c
    · exact .inl c
    · exact .inr (inl_more c hk)
  · rcases h.2 with c | c
    · exact .inl c
    · exact .inr (inl_more c hk)
theorem pok_a {m k : Nat} {A B : Int} (h : pok m k A B = true) (hm : 0 < m) : inl k A = true := by
  unfold pok at h
  simp only [Bool.and_eq_true, Bool.or_eq_true, decide_eq_true_eq] at h
  rcases h.1.2 with c | c
  · omega
  · exact c
theorem pok_b {m k : Nat} {A B : Int} (h : pok m k A B = true) (hm : 1 < m) : inl k B = true := by
  unfold pok at h
  simp only [Bool.and_eq_true, Bool.or_eq_true, decide_eq_true_eq] at h
  rcases h.2 with c | c
  · omega
  · exact c
theorem shp_more {l r : List Nd} {n : Nd} {s : List Int} (h : shp l n = some s) : shp (l ++ r) n = some s := by
  obtain ⟨m, h1, h2, h3, h4, h5⟩ := shp_some h
  unfold shp
  rw [h1]
  simp only
  rw [if_pos ⟨pok_more h2 (by simp), h3, h4⟩]
  have e1 : (if 0 < m then sha (l ++ r) n.a else []) = (if 0 < m then sha l n.a else []) := by
    by_cases c : 0 < m
    · rw [if_pos c, if_pos c, sha_more (pok_a h2 c)]
    · rw [if_neg c, if_neg c]
  have e2 : (if 1 < m then sha (l ++ r) n.b else []) = (if 1 < m then sha l n.b else []) := by
    by_cases c : 1 < m
    · rw [if_pos c, if_pos c, sha_more (pok_b h2 c)]
    · rw [if_neg c, if_neg c]
  rw [e1, e2, h5]
/-- where the right nodes stand -/
theorem nri_at {l : List Nd} (h : nrs l = true) {i : Nat} (hi : i < l.length) : nri l i = true := by
  unfold nrs at h
  rw [List.all_eq_true] at h
  exact h i (List.mem_range.2 hi)
theorem nri_shp {l : List Nd} {i : Nat} (h : nri l i = true) : shp (l.take i) (l.getD i zn) = some (l.getD i zn).shape := by
  unfold nri at h
  simp only [Bool.and_eq_true, decide_eq_true_eq] at h
  exact h.1
theorem nri_take {l : List Nd} {i k : Nat} (hi : i < k) (hk : k ≤ l.length) : nri (l.take k) i = nri l i := by
  have e : ∀ j, j < k → (l.take k).getD j zn = l.getD j zn := fun j hj => by
    rw [List.getD_eq_getElem?_getD, List.getD_eq_getElem?_getD, List.getElem?_take, if_pos hj]
  unfold nri
  rw [e i hi, List.take_take, Nat.min_eq_left (by omega)]
  congr 2
  have : ∀ j ∈ List.range i, decide (((l.take k).getD j zn).name ≠ (l.getD i zn).name) = decide ((l.getD j zn).name ≠ (l.getD i zn).name) := fun j hj => by
    rw [e j (by have := List.mem_range.1 hj; omega)]
  exact all_same this
theorem nrs_snoc {l : List Nd} {n : Nd} : nrs (l ++ [n]) = (nrs l && nri (l ++ [n]) l.length) := by
  unfold nrs
  rw [List.length_append, List.length_singleton, List.range_succ, List.all_append]
  simp only [List.all_cons, List.all_nil, Bool.and_true]
  congr 1
  have : ∀ i ∈ List.range l.length, nri (l ++ [n]) i = nri l i := fun i hi => by
    have hi := List.mem_range.1 hi
    have := nri_take (l := l ++ [n]) (i := i) (k := l.length) hi (by simp)
    rw [List.take_left'] at this
    · exact this.symm
    · rfl
  exact all_same this
theorem nri_snoc {l : List Nd} {n : Nd} : nri (l ++ [n]) l.length = (decide (shp l n = some n.shape) && (decide (n.name.size = 0) || l.all fun x => decide (x.name ≠ n.name))) := by
  unfold nri
  have e1 : (l ++ [n]).getD l.length zn = n := by simp [List.getD]
  have e2 : (l ++ [n]).take l.length = l := by simp
  rw [e1, e2]
  congr 2
  rw [Bool.eq_iff_iff, List.all_eq_true, List.all_eq_true]
  constructor
  · intro h x hx
    obtain ⟨i, hi, rfl⟩ := List.getElem_of_mem hx
    have := h i (List.mem_range.2 hi)
    rw [List.getD_eq_getElem?_getD, List.getElem?_append_left hi, List.getElem?_eq_getElem hi] at this
    exact this
  · intro h i hi
    have hi := List.mem_range.1 hi
    rw [List.getD_eq_getElem?_getD, List.getElem?_append_left hi, List.getElem?_eq_getElem hi]
    exact h _ (List.getElem_mem hi)
end Go.Proofs.YtadgnafafdfioaaGreatDoor.Gr
/-
  GRAPHS AS LISTS OF NODES: what the laws of layer 10 ask of them. Nothing of the program's text is named here. No conditions.
-/
namespace Go.Proofs.YtadgnafafdfioaaGreatDoor.Gr
open Go.Proofs.YtadgnafafdfioaaGreatDoor.Rd
set_option linter.unusedVariables false
set_option linter.unusedSimpArgs false

/-! ## the laws -/
theorem grt_iff {l : List Nd} {loss : Int} : grt l loss = true ↔ 1 ≤ l.length ∧ l.length ≤ 200 ∧ inl l.length loss = true ∧ (sha l loss).length = 0 ∧ nrs l = true := by
  simp only [grt, Bool.and_eq_true, decide_eq_true_eq]
  constructor
  · rintro ⟨⟨⟨⟨a, b⟩, c⟩, d⟩, e⟩; exact ⟨a, b, c, d, e⟩
  · rintro ⟨a, b, c, d, e⟩; exact ⟨⟨⟨⟨a, b⟩, c⟩, d⟩, e⟩
theorem grt_other {l : List Nd} {loss other : Int} (h : grt l loss = true) : grt l other = (inl l.length other && decide ((sha l other).length = 0)) := by
  obtain ⟨a, b, _, _, e⟩ := grt_iff.1 h
  unfold grt
  rw [e]
  simp [a, b]
theorem inl_iff {k : Nat} {A : Int} : inl k A = true ↔ 0 ≤ A ∧ A < (k : Int) := by simp [inl]
theorem getD_take_nd {l : List Nd} {i k : Nat} (h : i < k) : (l.take k).getD i zn = l.getD i zn := by
  rw [List.getD_eq_getElem?_getD, List.getD_eq_getElem?_getD, List.getElem?_take, if_pos h]
theorem nrs_take {l : List Nd} {k : Nat} (h : nrs l = true) (hk : k ≤ l.length) : nrs (l.take k) = true := by
  unfold nrs
  rw [List.all_eq_true]
  intro i hi
  have hi := List.mem_range.1 hi
  rw [List.length_take] at hi
  rw [nri_take (by omega) hk]
  exact nri_at h (by omega)
theorem grt_short {l : List Nd} {loss : Int} (h : grt l loss = true) : grt (l.take (loss.toNat + 1)) loss = true := by
  obtain ⟨a, b, c, d, e⟩ := grt_iff.1 h
  have hc := inl_iff.1 c
  rw [grt_iff]
  refine ⟨by rw [List.length_take]; omega, by rw [List.length_take]; omega, ?_, ?_, nrs_take e (by omega)⟩
  · rw [inl_iff, List.length_take]; omega
  · unfold sha at d ⊢
    rw [getD_take_nd (by omega)]
    exact d
theorem shp_at {l : List Nd} (h : nrs l = true) {i : Nat} (hi : i < l.length) : shp (l.take i) (l.getD i zn) = some (l.getD i zn).shape ∧ shp l (l.getD i zn) = some (l.getD i zn).shape := by
  have h1 := nri_shp (nri_at h hi)
  refine ⟨h1, ?_⟩
  have h2 := shp_more (r := l.drop i) h1
  rwa [List.take_append_drop] at h2
theorem rgt_at {l : List Nd} (h : nrs l = true) {i : Nat} (hi : i < l.length) : Sp.Rgt (l.getD i zn).shape := shp_rgt (shp_at h hi).1
/-- a name changed: the node is none any more -/
theorem nmb_em : nmb em = false := by decide
theorem getD_set_nd {l : List Nd} {i k : Nat} {x : Nd} (hi : i < l.length) : (l.set i x).getD i zn = x := by
  simp [List.getD, hi]
theorem nok_other {op name name' : ByteArray} (h : nok op name = true) (h1 : name.size = 0 → ¬ name'.size = 0) (h2 : ¬ name.size = 0 → name' = em) : nok op name' = false := by
  unfold nok at h ⊢
  by_cases c : (isw op lParam || isw op lInput) = true
  · rw [if_pos c] at h ⊢
    have hn : ¬ name.size = 0 := by
      intro e
      have : name = em := by
        have := Array.eq_empty_of_size_eq_zero (xs := name.data) e
        cases name; simp only at this; rw [this]
      rw [this, nmb_em] at h; cases h
    rw [h2 hn]; exact nmb_em
  · rw [if_neg c] at h ⊢
    simp only [decide_eq_true_eq] at h
    simp [h1 h]
theorem shp_nok {l : List Nd} {n : Nd} (h : nok n.op n.name = false) : shp l n = none := by
  unfold shp
  split
  · rw [if_neg]
    rintro ⟨_, c, _⟩
    rw [h] at c; cases c
  · rfl
theorem nri_none {l : List Nd} {i : Nat} (h : shp (l.take i) (l.getD i zn) = none) : nri l i = false := by
  unfold nri
  rw [h]; simp
theorem nrs_no {l : List Nd} {i : Nat} (hi : i < l.length) (h : nri l i = false) : nrs l = false := by
  cases c : nrs l with
  | false => rfl
  | true => rw [nri_at c hi] at h; cases h
theorem grt_no {l : List Nd} {loss : Int} (h : nrs l = false) : grt l loss = false := by
  unfold grt; rw [h]; simp
/-- of what has no name, with one; of what has one, with none -/
theorem grt_renamed {l : List Nd} {loss : Int} (h : nrs l = true) {i : Nat} (hi : i < l.length) {name' : ByteArray}
    (h1 : (l.getD i zn).name.size = 0 → ¬ name'.size = 0) (h2 : ¬ (l.getD i zn).name.size = 0 → name' = em) : grt (l.set i { l.getD i zn with name := name' }) loss = false := by
  refine grt_no (nrs_no (i := i) (by simpa using hi) (nri_none (shp_nok ?_)))
  rw [getD_set_nd (k := i) hi]
  obtain ⟨m, _, _, hn, _⟩ := shp_some (shp_at h hi).1
  exact nok_other hn h1 h2
/-- one of its names twice -/
theorem grt_twice {l : List Nd} {loss : Int} (h : nrs l = true) {i : Nat} (hi : i < l.length) {x : Nd} (ho : x.op = str lParam) (hx : x.name = (l.getD i zn).name) : grt (l ++ [x]) loss = false := by
  refine grt_no (nrs_no (i := l.length) (by simp) ?_)
  rw [nri_snoc]
  by_cases c : x.name.size = 0
  · have : x.name = em := by
      have := Array.eq_empty_of_size_eq_zero (xs := x.name.data) c
      cases hxn : x.name with
      | mk d => rw [hxn] at this; simp only at this; rw [this]
    have hn : nok x.op x.name = false := by
      rw [ho, this]
      unfold nok
      rw [show (isw (str lParam) lParam || isw (str lParam) lInput) = true from by decide]
      exact nmb_em
    rw [shp_nok hn]; simp
  · have : (l.all fun y => decide (y.name ≠ x.name)) = false := by
      rw [Bool.eq_false_iff]
      intro ha
      rw [List.all_eq_true] at ha
      have := ha (l.getD i zn) (by rw [List.getD_eq_getElem?_getD, List.getElem?_eq_getElem hi]; exact List.getElem_mem hi)
      simp only [decide_eq_true_eq] at this
      exact this hx.symm
    rw [this]
    simp [c]
/-- a node more, of the shape that is inferred of it -/
theorem own_shape {n : Nd} {a b s : List Int} (h : own n a b = some s) (ho : (isw n.op lParam || isw n.op lInput) = false) : own { n with shape := s } a b = some s := by
  unfold own at h ⊢
  simp only [ho] at h ⊢
  simp only [Bool.false_eq_true, if_false] at h ⊢
  by_cases c1 : isw n.op lConst = true
  · rw [if_pos c1] at h ⊢
    have e : n.shape = s := by
      split at h
      · cases h; rfl
      · cases h
    subst e
    exact h
  rw [if_neg c1] at h ⊢
  by_cases c2 : isw n.op lMatmul = true
  · rw [if_pos c2] at h ⊢; exact h
  rw [if_neg c2] at h ⊢
  by_cases c3 : isw n.op lTranspose = true
  · rw [if_pos c3] at h ⊢; exact h
  rw [if_neg c3] at h ⊢
  by_cases c4 : isw n.op lSum = true
  · rw [if_pos c4] at h ⊢; exact h
  rw [if_neg c4] at h ⊢
  by_cases c5 : isw n.op lScale = true
  · rw [if_pos c5] at h ⊢; exact h
  rw [if_neg c5] at h ⊢
  by_cases c6 : isw n.op lPower = true
  · rw [if_pos c6] at h ⊢; exact h
  rw [if_neg c6] at h ⊢
  by_cases c7 : isw n.op lReshape = true
  · rw [if_pos c7] at h ⊢
    have e : n.shape = s := by
      split at h
      · cases h; rfl
      · cases h
    subst e
    exact h
  rw [if_neg c7] at h ⊢
  by_cases c8 : isw n.op lSpread = true
  · rw [if_pos c8] at h ⊢
    have e : n.shape = s := by
      split at h
      · exact (rgo_some h).1.symm
      · cases h
    subst e
    exact h
  rw [if_neg c8] at h ⊢
  exact h
theorem shp_shape {l : List Nd} {n : Nd} {s : List Int} (h : shp l n = some s) (hn : n.name.size = 0) : shp l { n with shape := s } = some s := by
  obtain ⟨m, h1, h2, h3, h4, h5⟩ := shp_some h
  have ho : (isw n.op lParam || isw n.op lInput) = false := by
    rw [Bool.eq_false_iff]
    intro c
    unfold nok at h3
    rw [if_pos c] at h3
    have : n.name = em := by
      have := Array.eq_empty_of_size_eq_zero (xs := n.name.data) hn
      cases hxn : n.name with
      | mk d => rw [hxn] at this; simp only at this; rw [this]
    rw [this, nmb_em] at h3; cases h3
  unfold shp
  simp only [h1]
  rw [if_pos ⟨h2, h3, h4⟩]
  exact own_shape h5 ho
theorem grt_more {l : List Nd} {loss : Int} {n : Nd} {s : List Int} (h : grt l loss = true) (hl : l.length < 200) (hs : shp l n = some s) (hn : n.name.size = 0) : grt (l ++ [{ n with shape := s }]) loss = true := by
  obtain ⟨a, b, c, d, e⟩ := grt_iff.1 h
  rw [grt_iff]
  refine ⟨by simp, by simp; omega, ?_, ?_, ?_⟩
  · exact inl_more c (by simp)
  · rw [sha_more c]; exact d
  · rw [nrs_snoc, e, nri_snoc]
    simp only [Bool.true_and, Bool.and_eq_true, Bool.or_eq_true, decide_eq_true_eq]
    exact ⟨shp_shape hs hn, .inl hn⟩
theorem nats_65 (s : List Int) : ¬ Sp.Rgt (s ++ [65]) := by
  rintro ⟨_, h1, h2⟩
  rw [Sp.nats_app, Sp.shz_app] at h2
  have h3 : 1 ≤ Sp.shz (Sp.nats s) := Sp.shz_pos (Sp.pos_nats fun z hz => h1 z (by simp [hz]))
  have h4 : Sp.shz (Sp.nats [65]) = 65 := rfl
  rw [h4] at h2
  omega
theorem grt_wrong {l : List Nd} {loss : Int} {n : Nd} {s : List Int} : grt (l ++ [{ n with shape := s ++ [65] }]) loss = false := by
  refine grt_no (nrs_no (i := l.length) (by simp) ?_)
  rw [nri_snoc]
  have : ¬ shp l { n with shape := s ++ [65] } = some (s ++ [65]) := fun h => nats_65 s (shp_rgt h)
  simp [this]
end Go.Proofs.YtadgnafafdfioaaGreatDoor.Gr
/-
  GRAPHS AS LISTS OF NODES: what the program does, as functions of nodes, is what the document says. Nothing of the program's text is named here. No conditions.
-/
namespace Go.Proofs.YtadgnafafdfioaaGreatDoor.Gr
open Go.Proofs.YtadgnafafdfioaaGreatDoor.Rd
set_option linter.unusedVariables false
set_option linter.unusedSimpArgs false

/-! ## what the program does, as functions of nodes -/
def nmd (x : ByteArray) : Bool := isw x lParam || isw x lInput
/-- nothing that the operation does not name -/
def pla (n : Nd) : Bool :=
  (match prs n.op with
    | some 2 => true
    | some 1 => decide (n.b = 0)
    | _ => decide (n.b = 0) && decide (n.a = 0)) && (nmd n.op || decide (n.name.size = 0)) && fok n
/-- what a node of no parts must have -/
def gvn (n : Nd) : Bool := if nmd n.op then nmb n.name else decide (n.data.length = Sp.szI n.shape) && n.data.all ra
/-- of one part -/
def sgl (n : Nd) (a : List Int) : Option (List Int) :=
  if isw n.op lScale then (if ra n.k = true then some a else none)
  else if isw n.op lPower then (if 0 ≤ n.n ∧ n.n ≤ 6 then some a else none)
  else if isw n.op lTranspose then (if a.length = 2 then some [a.getD 1 0, a.getD 0 0] else none)
  else if isw n.op lSum then some []
  else if isw n.op lReshape then (if Sp.szI n.shape = Sp.szI a then some n.shape else none)
  else if isw n.op lSpread then (if a.length = 0 then some n.shape else none)
  else some a
/-- of two -/
def pai (op : ByteArray) (a b : List Int) : Option (List Int) :=
  if isw op lMatmul then (if a.length = 2 ∧ b.length = 2 ∧ a.getD 1 0 = b.getD 0 0 then some [a.getD 0 0, b.getD 1 0] else none) else (if a = b then some a else none)
def mad (l : List Nd) (n : Nd) : Option (List Int) :=
  match prs n.op with
  | some 0 => if gvn n = true then some n.shape else none
  | some 1 => if inl l.length n.a = true then sgl n (sha l n.a) else none
  | some 2 => if inl l.length n.a = true ∧ inl l.length n.b = true then pai n.op (sha l n.a) (sha l n.b) else none
  | _ => none
def inf (l : List Nd) (n : Nd) : Option (List Int) := if pla n = true then (mad l n).bind rgo else none

theorem any_ls {x : ByteArray} {L : List (List UInt8)} (h : L.any (isw x) = true) : ∃ a ∈ L, x = str a := by
  rw [List.any_eq_true] at h
  obtain ⟨a, ha, hx⟩ := h
  exact ⟨a, ha, isw_eq hx⟩
theorem prs_some {x : ByteArray} {m : Nat} (h : prs x = some m) : (m = 0 ∧ ∃ a ∈ noLs, x = str a) ∨ (m = 1 ∧ ∃ a ∈ oneLs, x = str a) ∨ (m = 2 ∧ ∃ a ∈ twoLs, x = str a) := by
  unfold prs at h
  split at h
  · cases h; exact .inl ⟨rfl, any_ls ‹_›⟩
  · split at h
    · cases h; exact .inr (.inl ⟨rfl, any_ls ‹_›⟩)
    · split at h
      · cases h; exact .inr (.inr ⟨rfl, any_ls ‹_›⟩)
      · cases h
theorem isw_str_eq (a b : List UInt8) : isw (str a) b = (a == b) := by simp [isw, str]
theorem rgo_of {s : List Int} (h : Sp.Rgt s) : rgo s = some s := if_pos h
theorem sha_rgt {l : List Nd} (hl : ∀ i, i < l.length → Sp.Rgt (l.getD i zn).shape) {A : Int} (h : inl l.length A = true) : Sp.Rgt (sha l A) := by
  have := inl_iff.1 h
  exact hl _ (by omega)
theorem pok0 (k : Nat) (A B : Int) : pok 0 k A B = (decide (A = 0) && decide (B = 0)) := by simp [pok]
theorem pok1 (k : Nat) (A B : Int) : pok 1 k A B = (decide (B = 0) && inl k A) := by simp [pok]
theorem pok2 (k : Nat) (A B : Int) : pok 2 k A B = (inl k A && inl k B) := by simp [pok]
theorem bind_if {p : Prop} [Decidable p] (s : List Int) : (if p then some s else none).bind rgo = if p then rgo s else none := by
  by_cases h : p <;> simp [h]
theorem rgo_const {s : List Int} {p q : Prop} [Decidable p] [Decidable q] [Decidable (Sp.Rgt s ∧ q)] (h : p ↔ q) : (if p then rgo s else none) = if Sp.Rgt s ∧ q then some s else none := by
  by_cases hq : q
  · rw [if_pos (h.2 hq)]
    unfold rgo
    by_cases hs : Sp.Rgt s
    · rw [if_pos hs, if_pos ⟨hs, hq⟩]
    · rw [if_neg hs, if_neg fun c => hs c.1]
  · rw [if_neg (fun c => hq (h.1 c)), if_neg fun c => hq c.2]
theorem cases_no {op : ByteArray} (h : prs op = some 0) : op = str lParam ∨ op = str lInput ∨ op = str lConst := by
  rcases prs_some h with ⟨_, a, ha, rfl⟩ | ⟨c, _⟩ | ⟨c, _⟩
  · simp only [noLs, List.mem_cons, List.not_mem_nil, or_false] at ha
    rcases ha with rfl | rfl | rfl <;> simp
  · cases c
  · cases c
theorem cases_one {op : ByteArray} (h : prs op = some 1) : op = str lRelu ∨ op = str lAbs ∨ op = str lStep ∨ op = str lSign ∨ op = str lScale ∨ op = str lPower ∨ op = str lTranspose ∨ op = str lSum ∨ op = str lReshape ∨ op = str lSpread := by
  rcases prs_some h with ⟨c, _⟩ | ⟨_, a, ha, rfl⟩ | ⟨c, _⟩
  · cases c
  · simp only [oneLs, List.mem_cons, List.not_mem_nil, or_false] at ha
    rcases ha with rfl | rfl | rfl | rfl | rfl | rfl | rfl | rfl | rfl | rfl <;> simp
  · cases c
theorem cases_two {op : ByteArray} (h : prs op = some 2) : op = str lAdd ∨ op = str lSub ∨ op = str lMul ∨ op = str lMax ∨ op = str lAbove ∨ op = str lMatmul := by
  rcases prs_some h with ⟨c, _⟩ | ⟨c, _⟩ | ⟨_, a, ha, rfl⟩
  · cases c
  · cases c
  · simp only [twoLs, List.mem_cons, List.not_mem_nil, or_false] at ha
    rcases ha with rfl | rfl | rfl | rfl | rfl | rfl <;> simp
theorem prs_le {x : ByteArray} {m : Nat} (h : prs x = some m) : m = 0 ∨ m = 1 ∨ m = 2 := by
  rcases prs_some h with h | h | h <;> simp [h.1]
theorem own_two {n : Nd} {a b : List Int} (h : prs n.op = some 2) : own n a b = (pai n.op a b).bind rgo := by
  rcases cases_two h with e | e | e | e | e | e <;> simp [own, pai, e, isw_str_eq, bind_if]
theorem own_one {n : Nd} {a b : List Int} (ha : Sp.Rgt a) (h : prs n.op = some 1) : own n a b = (sgl n a).bind rgo := by
  have hr : ∀ p : Prop, [Decidable p] → (if p then rgo n.shape else none) = if Sp.Rgt n.shape ∧ p then some n.shape else none := fun p _ => rgo_const Iff.rfl
  rcases cases_one h with e | e | e | e | e | e | e | e | e | e <;> simp only [own, sgl, e, isw_str_eq, bind_if]
  all_goals simp only [List.cons_beq_cons, Bool.and_true, Bool.true_and, Bool.false_and, Bool.and_false, beq_self_eq_true, List.any_cons, List.any_nil, isw_str_eq]
  all_goals simp [bind_if, rgo, ha]
  · decide
  · simp only [rgo] at hr; have := hr (Sp.szI n.shape = Sp.szI a); rw [this]; congr 1; exact propext ⟨fun c => ⟨c.1, c.2.2⟩, fun c => ⟨c.1, ha, c.2⟩⟩
theorem own_no {n : Nd} {a b : List Int} (h : prs n.op = some 0) (hn : nok n.op n.name = true) : own n a b = (if gvn n = true then some n.shape else none).bind rgo := by
  rcases cases_no h with e | e | e
  · have : gvn n = true := by
      rw [e] at hn; unfold nok at hn; unfold gvn nmd
      rw [e]; simpa [isw_str_eq] using hn
    rw [this]
    simp [own, e, isw_str_eq]
  · have : gvn n = true := by
      rw [e] at hn; unfold nok at hn; unfold gvn nmd
      rw [e]; simpa [isw_str_eq] using hn
    rw [this]
    simp [own, e, isw_str_eq]
  · simp only [own, e, isw_str_eq, bind_if, gvn, nmd]
    simp
    exact (rgo_const (by simp)).symm
theorem nok_one {op name : ByteArray} {m : Nat} (h : prs op = some m) (hm : 0 < m) : nok op name = decide (name.size = 0) ∧ nmd op = false := by
  have h0 : nmd op = false := by
    rcases prs_le h with rfl | rfl | rfl
    · cases hm
    · rcases cases_one h with e | e | e | e | e | e | e | e | e | e <;> rw [e] <;> decide
    · rcases cases_two h with e | e | e | e | e | e <;> rw [e] <;> decide
  refine ⟨?_, h0⟩
  unfold nok; unfold nmd at h0
  rw [h0]; rfl
theorem inf_shp {l : List Nd} (hl : ∀ i, i < l.length → Sp.Rgt (l.getD i zn).shape) (n : Nd) : inf l n = shp l n := by
  unfold inf shp mad pla
  cases h : prs n.op with
  | none => simp
  | some m =>
    rcases prs_le h with rfl | rfl | rfl
    · by_cases hp : pok 0 l.length n.a n.b = true ∧ nok n.op n.name = true ∧ fok n = true
      · obtain ⟨h1, h2, h3⟩ := hp
        simp only
        rw [if_pos (show pok 0 l.length n.a n.b = true ∧ nok n.op n.name = true ∧ fok n = true from ⟨h1, h2, h3⟩), own_no h h2]
        have h4 : (nmd n.op || decide (n.name.size = 0)) = true := by
          unfold nok at h2; unfold nmd
          split at h2
          · rename_i c; rw [c]; rfl
          · rw [h2]; simp
        rw [pok0] at h1
        rw [if_pos (show (decide (n.b = 0) && decide (n.a = 0) && (nmd n.op || decide (n.name.size = 0)) && fok n) = true by rw [h4, h3, Bool.and_comm (decide (n.b = 0)), h1]; rfl)]
      · simp only
        rw [if_neg hp]
        split
        · rename_i c
          simp only [Bool.and_eq_true] at c
          have h1 : pok 0 l.length n.a n.b = true := by rw [pok0, Bool.and_eq_true]; exact ⟨c.1.1.2, c.1.1.1⟩
          have h2 : nok n.op n.name = false := by
            cases e : nok n.op n.name with
            | false => rfl
            | true => exact absurd ⟨h1, e, c.2⟩ hp
          have h5 : gvn n = false := by
            unfold nok at h2; unfold gvn nmd
            split at h2
            · rename_i c1; rw [if_pos c1]; exact h2
            · rename_i c1
              have := c.1.2
              unfold nmd at this
              rw [h2, Bool.or_false] at this
              exact absurd this c1
          rw [h5]; rfl
        · rfl
    · obtain ⟨h2, h3⟩ := nok_one (name := n.name) h (by omega)
      simp only
      rw [h2, h3, pok1, Bool.false_or]
      by_cases hA : inl l.length n.a = true
      · rw [hA, Bool.and_true]
        have := own_one (b := if 1 < 1 then sha l n.b else []) (sha_rgt hl hA) h
        simp only [Nat.lt_irrefl, if_false, Nat.zero_lt_one, if_true] at this ⊢
        rw [this]
        by_cases c : (decide (n.b = 0) && decide (n.name.size = 0) && fok n) = true
        · rw [if_pos c, if_pos (by simpa [and_assoc] using c)]
        · rw [if_neg c, if_neg (by simpa [and_assoc] using c)]
      · simp [hA]
    · obtain ⟨h2, h3⟩ := nok_one (name := n.name) h (by omega)
      simp only
      rw [h2, h3, pok2, Bool.false_or, Bool.true_and]
      by_cases hA : inl l.length n.a = true ∧ inl l.length n.b = true
      · rw [if_pos hA, hA.1, hA.2]
        have := own_two (a := sha l n.a) (b := sha l n.b) h
        simp only [Nat.lt_irrefl, if_false, Nat.zero_lt_two, Nat.one_lt_two, if_true] at this ⊢
        rw [this]
        by_cases c : (decide (n.name.size = 0) && fok n) = true
        · rw [if_pos c, if_pos (by simpa using c)]
        · rw [if_neg c, if_neg (by simpa using c)]
      · rw [if_neg hA]
        rw [if_neg (show ¬ ((inl l.length n.a && inl l.length n.b) = true ∧ decide (n.name.size = 0) = true ∧ fok n = true) by rintro ⟨c, _⟩; rw [Bool.and_eq_true] at c; exact hA c)]
        split <;> rfl
end Go.Proofs.YtadgnafafdfioaaGreatDoor.Gr
/-
  GRAPHS AS LISTS OF NODES: graphs built of statements; what is built is right. Nothing of the program's text is named here. No conditions.
-/
namespace Go.Proofs.YtadgnafafdfioaaGreatDoor.Gr
open Go.Proofs.YtadgnafafdfioaaGreatDoor.Rd
set_option linter.unusedVariables false
set_option linter.unusedSimpArgs false

/-! ## graphs that are built of statements -/
/-- a statement as it is read: of one but loss as many names as its operation has parts; of loss one -/
def Pst (s : Rd.Sm) : Prop := if isw s.op lLoss = true then s.args.length = 1 else prs s.op = some s.args.length
theorem prs_ari {x : ByteArray} (h : ari x ≠ 0) : prs x = some (ari x) := by
  unfold ari at h ⊢
  split at h
  · rename_i c
    obtain ⟨a, ha, rfl⟩ := any_ls c
    rw [if_pos c]
    simp only [twos, List.mem_cons, List.not_mem_nil, or_false] at ha
    rcases ha with rfl | rfl | rfl | rfl | rfl | rfl <;> decide
  · rename_i c0
    rw [if_neg c0]
    split at h
    · rename_i c
      rw [if_pos c]
      simp only [Bool.or_eq_true] at c
      rcases c with (((c | c) | c) | c) | c
      · obtain ⟨a, ha, rfl⟩ := any_ls c
        simp only [ones, List.mem_cons, List.not_mem_nil, or_false] at ha
        rcases ha with rfl | rfl | rfl | rfl | rfl | rfl <;> decide
      · rw [isw_eq c]; decide
      · rw [isw_eq c]; decide
      · rw [isw_eq c]; decide
      · rw [isw_eq c]; decide
    · exact absurd rfl h
theorem opn_pst {a : ByteArray} {l : List ByteArray} {s : Rd.Sm} (h : opn a l = some s) : Pst s := by
  unfold Pst
  rw [loss_no h]
  obtain ⟨p, _, _, h1, h2, h3, _⟩ := opn_some h
  rw [if_neg (by decide), prs_ari h1, h3, List.length_take, Nat.min_eq_left h2]
theorem giv_some {a b : ByteArray} {r : List ByteArray} {s : Rd.Sm} (h : giv a b r = some s) : s.op = a ∧ s.args = [] ∧ s.name = b := by
  unfold giv at h
  split at h
  · split at h
    · cases h; exact ⟨rfl, rfl, rfl⟩
    · cases h
  · cases h
theorem con_some {a b : ByteArray} {r : List ByteArray} {s : Rd.Sm} (h : con a b r = some s) : s.op = a ∧ s.args = [] ∧ s.name = b := by
  unfold con at h
  split at h
  · split at h
    · split at h
      · split at h
        · cases h; exact ⟨rfl, rfl, rfl⟩
        · cases h
      · cases h
    · cases h
  · cases h
theorem par_pst {ws : List ByteArray} {s : Rd.Sm} (h : par ws = some s) : Pst s := by
  match ws, h with
  | [], h => cases h
  | [a], h => cases h
  | a :: b :: r, h =>
    rw [par_two] at h
    split at h
    · exact opn_pst h
    · split at h
      · rename_i c
        obtain ⟨e1, e2, _⟩ := giv_some h
        unfold Pst
        rw [e1, e2]
        rw [Bool.or_eq_true] at c
        rcases c with c | c <;> rw [isw_eq c] <;> decide
      · split at h
        · rename_i c
          obtain ⟨e1, e2, _⟩ := con_some h
          unfold Pst
          rw [e1, e2, isw_eq c]
          decide
        · split at h
          · rename_i hl
            split at h
            · cases h
              unfold Pst
              rw [if_pos hl]; rfl
            · cases h
          · cases h
theorem alls_pst : ∀ {L : List (Nat × List (List UInt8))} {l : List Rd.Sm}, alls L = some l → ∀ s ∈ l, Pst s
  | [], l, h, s, hs => by cases h; cases hs
  | x :: L, l, h, s, hs => by
    rw [alls_cons] at h
    cases h1 : par (bas x.2) with
    | none => simp [h1] at h
    | some a =>
      cases h2 : alls L with
      | none => simp [h1, h2] at h
      | some m =>
        simp only [h1, h2, Option.some.injEq] at h
        subst h
        rcases List.mem_cons.1 hs with rfl | hs
        · exact par_pst h1
        · exact alls_pst h2 s hs

/-- the place of a name -/
def fnd : List ByteArray → ByteArray → Option Nat
  | [], _ => none
  | y :: l, x => if y = x then some 0 else (fnd l x).map (· + 1)
theorem fnd_lt : ∀ {l : List ByteArray} {x : ByteArray} {k : Nat}, fnd l x = some k → k < l.length
  | y :: l, x, k, h => by
    unfold fnd at h
    split at h
    · cases h; simp
    · cases h2 : fnd l x with
      | none => simp [h2] at h
      | some j => simp [h2] at h; have := fnd_lt h2; simp; omega
theorem fnd_none : ∀ {l : List ByteArray} {x : ByteArray}, fnd l x = none ↔ x ∉ l
  | [], x => by simp [fnd]
  | y :: l, x => by
    unfold fnd
    by_cases h : y = x
    · simp [h]
    · rw [if_neg h, Option.map_eq_none_iff, fnd_none]
      simp [Ne.symm h]
theorem fnd_snoc (l : List ByteArray) (x y : ByteArray) : fnd (l ++ [y]) x = match fnd l x with | some k => some k | none => if y = x then some l.length else none := by
  induction l with
  | nil => simp [fnd]
  | cons z l ih =>
    rw [List.cons_append]
    unfold fnd
    by_cases h : z = x
    · simp [h]
    · rw [if_neg h, if_neg h, ih]
      cases fnd l x with
      | some k => rfl
      | none => by_cases e : y = x <;> simp [e]
/-- the places of names -/
def fnds (ns : List ByteArray) : List ByteArray → Option (List Nat)
  | [] => some []
  | x :: l => match fnd ns x, fnds ns l with
    | some k, some ks => some (k :: ks)
    | _, _ => none
theorem fnds_len {ns : List ByteArray} : ∀ {l : List ByteArray} {ks : List Nat}, fnds ns l = some ks → ks.length = l.length
  | [], ks, h => by cases h; rfl
  | x :: l, ks, h => by
    unfold fnds at h
    cases h1 : fnd ns x with
    | none => simp [h1] at h
    | some k =>
      cases h2 : fnds ns l with
      | none => simp [h1, h2] at h
      | some m => simp [h1, h2] at h; subst h; simp [fnds_len h2]
theorem fnds_lt {ns : List ByteArray} : ∀ {l : List ByteArray} {ks : List Nat}, fnds ns l = some ks → ∀ k ∈ ks, k < ns.length
  | [], ks, h, k, hk => by cases h; cases hk
  | x :: l, ks, h, k, hk => by
    unfold fnds at h
    cases h1 : fnd ns x with
    | none => simp [h1] at h
    | some j =>
      cases h2 : fnds ns l with
      | none => simp [h1, h2] at h
      | some m =>
        simp [h1, h2] at h; subst h
        rcases List.mem_cons.1 hk with rfl | hk
        · exact fnd_lt h1
        · exact fnds_lt h2 k hk
/-- what has been built -/
structure St where
  l : List Nd
  ns : List ByteArray
  loss : Int
def s0 : St := ⟨[], [], -1⟩
/-- the node that a statement tells -/
def nod (s : Rd.Sm) (A B : Int) : Nd := ⟨s.op, A, B, if nmd s.op then s.name else em, s.dims, s.k, s.n, s.data⟩
def pA (ks : List Nat) : Int := match ks with | k :: _ => k | [] => 0
def pB (ks : List Nat) : Int := match ks with | _ :: k :: _ => k | _ => 0
/-- a statement more, or the error -/
def stp (σ : St) (s : Rd.Sm) : Except Nat St :=
  if isw s.op lLoss = true then
    match fnds σ.ns s.args with
    | none => .error 5
    | some ks => if 0 ≤ σ.loss then .error 6 else if (sha σ.l (pA ks)).length = 0 then .ok { σ with loss := pA ks } else .error 7
  else if (fnd σ.ns s.name).isSome then .error 6
  else match fnds σ.ns s.args with
    | none => .error 5
    | some ks => if σ.l.length = 200 then .error 8
      else match shp σ.l (nod s (pA ks) (pB ks)) with
        | none => .error 4
        | some d => .ok { σ with l := σ.l ++ [{ nod s (pA ks) (pB ks) with shape := d }], ns := σ.ns ++ [s.name] }
/-- all statements: the graph, or the place and the number of the error -/
def bld (σ : St) (i : Nat) : List Rd.Sm → Except (Nat × Nat) (List Nd × Int)
  | [] => if 0 ≤ σ.loss then .ok (σ.l, σ.loss) else .error (i, 7)
  | s :: r => match stp σ s with
    | .ok τ => bld τ (i + 1) r
    | .error e => .error (i, e)

/-- what holds of what has been built -/
structure Ok (σ : St) : Prop where
  len : σ.ns.length = σ.l.length
  few : σ.l.length ≤ 200
  right : nrs σ.l = true
  names : ∀ x ∈ σ.l, x.name.size = 0 ∨ x.name ∈ σ.ns
  loss : σ.loss = -1 ∨ (inl σ.l.length σ.loss = true ∧ (sha σ.l σ.loss).length = 0)
theorem Ok.zero : Ok s0 := ⟨rfl, by simp [s0], rfl, fun x hx => (by cases hx), .inl rfl⟩
theorem own_dims {s : Rd.Sm} {A B : Int} {a b d : List Int} (h : own (nod s A B) a b = some d) : own { nod s A B with shape := d } a b = some d := by
  by_cases c : (isw (nod s A B).op lParam || isw (nod s A B).op lInput) = true
  · unfold own at h ⊢
    rw [if_pos c] at h
    rw [if_pos c]
    obtain ⟨e, hr⟩ := rgo_some h
    rw [← e] at hr
    exact rgo_of hr
  · exact own_shape h (by simpa using c)
theorem shp_dims {l : List Nd} {s : Rd.Sm} {A B : Int} {d : List Int} (h : shp l (nod s A B) = some d) : shp l { nod s A B with shape := d } = some d := by
  obtain ⟨m, h1, h2, h3, h4, h5⟩ := shp_some h
  unfold shp
  simp only [h1]
  rw [if_pos ⟨h2, h3, h4⟩]
  exact own_dims h5
theorem shp_name {l : List Nd} {n : Nd} {d : List Int} (h : shp l n = some d) : nmd n.op = true → ¬ n.name.size = 0 := by
  intro c e
  obtain ⟨m, _, _, h3, _⟩ := shp_some h
  unfold nok at h3
  unfold nmd at c
  rw [if_pos c] at h3
  have : n.name = em := by
    have := Array.eq_empty_of_size_eq_zero (xs := n.name.data) e
    cases hxn : n.name with
    | mk d => rw [hxn] at this; simp only at this; rw [this]
  rw [this, nmb_em] at h3; cases h3
theorem pA_in {σ : St} (hσ : Ok σ) {args : List ByteArray} {ks : List Nat} (h : fnds σ.ns args = some ks) (h1 : ks ≠ []) : inl σ.l.length (pA ks) = true := by
  cases ks with
  | nil => exact absurd rfl h1
  | cons k r =>
    have := fnds_lt h k List.mem_cons_self
    rw [hσ.len] at this
    rw [inl_iff]; simp only [pA]; omega
theorem stp_ok {σ τ : St} {s : Rd.Sm} (hs : Pst s) (hσ : Ok σ) (h : stp σ s = .ok τ) : Ok τ := by
  unfold stp at h
  split at h
  · rename_i hl
    unfold Pst at hs
    rw [if_pos hl] at hs
    split at h
    · cases h
    · rename_i ks hk
      split at h
      · cases h
      · split at h
        · rename_i h0
          cases h
          have hlen := fnds_len hk
          exact ⟨hσ.len, hσ.few, hσ.right, hσ.names, .inr ⟨pA_in hσ hk (by intro c; rw [c, hs] at hlen; cases hlen), h0⟩⟩
        · cases h
  · split at h
    · cases h
    · rename_i hn
      split at h
      · cases h
      · rename_i ks hk
        split at h
        · cases h
        · rename_i h200
          split at h
          · cases h
          · rename_i d hd
            cases h
            have hf := hσ.few
            have hno : s.name ∉ σ.ns := fnd_none.1 (by simpa using hn)
            refine ⟨by simp [hσ.len], by simp; omega, ?_, ?_, ?_⟩
            · rw [nrs_snoc, hσ.right, nri_snoc]
              simp only [Bool.true_and, Bool.and_eq_true, Bool.or_eq_true, decide_eq_true_eq]
              refine ⟨shp_dims hd, ?_⟩
              by_cases c : nmd s.op = true
              · refine .inr (List.all_eq_true.2 fun x hx => ?_)
                have e : (nod s (pA ks) (pB ks)).name = s.name := by simp [nod, c]
                have hz := shp_name hd c
                rw [e] at hz
                simp only [decide_eq_true_eq]
                rw [e]
                intro hxe
                rcases hσ.names x hx with hx0 | hx0
                · rw [hxe] at hx0; exact hz hx0
                · rw [hxe] at hx0; exact hno hx0
              · refine .inl ?_
                simp only [nod]; rw [if_neg c]; rfl
            · intro x hx
              rcases List.mem_append.1 hx with hx | hx
              · rcases hσ.names x hx with c | c
                · exact .inl c
                · exact .inr (List.mem_append_left _ c)
              · rw [List.mem_singleton] at hx
                subst hx
                by_cases c : nmd s.op = true
                · exact .inr (by simp [nod, c])
                · exact .inl (by simp only [nod]; rw [if_neg c]; rfl)
            · rcases hσ.loss with c | ⟨c1, c2⟩
              · exact .inl c
              · exact .inr ⟨inl_more c1 (by simp), by rw [sha_more c1]; exact c2⟩
/-- what is built is right -/
theorem bld_right : ∀ {L : List Rd.Sm} {σ : St} {i : Nat} {l : List Nd} {loss : Int}, (∀ s ∈ L, Pst s) → Ok σ → bld σ i L = .ok (l, loss) → grt l loss = true
  | [], σ, i, l, loss, hL, hσ, h => by
    unfold bld at h
    split at h
    · rename_i h0
      cases h
      rcases hσ.loss with c | ⟨c1, c2⟩
      · rw [c] at h0; exact absurd h0 (by decide)
      · have hi := inl_iff.1 c1
        exact grt_iff.2 ⟨by omega, hσ.few, c1, c2, hσ.right⟩
    · cases h
  | s :: L, σ, i, l, loss, hL, hσ, h => by
    unfold bld at h
    split at h
    · rename_i τ ht
      exact bld_right (fun x hx => hL x (List.mem_cons_of_mem _ hx)) (stp_ok (hL s List.mem_cons_self) hσ ht) h
    · cases h
end Go.Proofs.YtadgnafafdfioaaGreatDoor.Gr
