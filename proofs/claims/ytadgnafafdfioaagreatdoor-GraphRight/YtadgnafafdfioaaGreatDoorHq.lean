/-
  GRAPHS AS LISTS OF NODES: what the program does, as functions of nodes, is what the document says. Nothing of the program's text is named here. No conditions.
-/
import Derived.Test.YtadgnafafdfioaaGreatDoorHp
namespace Go.Proofs.YtadgnafafdfioaaGreatDoor.Gr
open Go.Proofs.YtadgnafafdfioaaGreatDoor.Rd
set_option linter.unusedVariables false
set_option linter.unusedSimpArgs false

/-! ## what the program does, as functions of nodes -/
def nmd (x : ByteArray) : Bool := isw x lParam || isw x lInput
/-- nothing that the operation does not name -/
def pla (n : Nd) : Bool :=
  (match prs n.op with
    | some 2 => true
    | some 1 => decide (n.b = 0)
    | _ => decide (n.b = 0) && decide (n.a = 0)) && (nmd n.op || decide (n.name.size = 0)) && fok n
/-- what a node of no parts must have -/
def gvn (n : Nd) : Bool := if nmd n.op then nmb n.name else decide (n.data.length = Sp.szI n.shape) && n.data.all ra
/-- of one part -/
def sgl (n : Nd) (a : List Int) : Option (List Int) :=
  if isw n.op lScale then (if ra n.k = true then some a else none)
  else if isw n.op lPower then (if 0 ≤ n.n ∧ n.n ≤ 6 then some a else none)
  else if isw n.op lTranspose then (if a.length = 2 then some [a.getD 1 0, a.getD 0 0] else none)
  else if isw n.op lSum then some []
  else if isw n.op lReshape then (if Sp.szI n.shape = Sp.szI a then some n.shape else none)
  else if isw n.op lSpread then (if a.length = 0 then some n.shape else none)
  else some a
/-- of two -/
def pai (op : ByteArray) (a b : List Int) : Option (List Int) :=
  if isw op lMatmul then (if a.length = 2 ∧ b.length = 2 ∧ a.getD 1 0 = b.getD 0 0 then some [a.getD 0 0, b.getD 1 0] else none) else (if a = b then some a else none)
def mad (l : List Nd) (n : Nd) : Option (List Int) :=
  match prs n.op with
  | some 0 => if gvn n = true then some n.shape else none
  | some 1 => if inl l.length n.a = true then sgl n (sha l n.a) else none
  | some 2 => if inl l.length n.a = true ∧ inl l.length n.b = true then pai n.op (sha l n.a) (sha l n.b) else none
  | _ => none
def inf (l : List Nd) (n : Nd) : Option (List Int) := if pla n = true then (mad l n).bind rgo else none

theorem any_ls {x : ByteArray} {L : List (List UInt8)} (h : L.any (isw x) = true) : ∃ a ∈ L, x = str a := by
  rw [List.any_eq_true] at h
  obtain ⟨a, ha, hx⟩ := h
  exact ⟨a, ha, isw_eq hx⟩
theorem prs_some {x : ByteArray} {m : Nat} (h : prs x = some m) : (m = 0 ∧ ∃ a ∈ noLs, x = str a) ∨ (m = 1 ∧ ∃ a ∈ oneLs, x = str a) ∨ (m = 2 ∧ ∃ a ∈ twoLs, x = str a) := by
  unfold prs at h
  split at h
  · cases h; exact .inl ⟨rfl, any_ls ‹_›⟩
  · split at h
    · cases h; exact .inr (.inl ⟨rfl, any_ls ‹_›⟩)
    · split at h
      · cases h; exact .inr (.inr ⟨rfl, any_ls ‹_›⟩)
      · cases h
theorem isw_str_eq (a b : List UInt8) : isw (str a) b = (a == b) := by simp [isw, str]
theorem rgo_of {s : List Int} (h : Sp.Rgt s) : rgo s = some s := if_pos h
theorem sha_rgt {l : List Nd} (hl : ∀ i, i < l.length → Sp.Rgt (l.getD i zn).shape) {A : Int} (h : inl l.length A = true) : Sp.Rgt (sha l A) := by
  have := inl_iff.1 h
  exact hl _ (by omega)
theorem pok0 (k : Nat) (A B : Int) : pok 0 k A B = (decide (A = 0) && decide (B = 0)) := by simp [pok]
theorem pok1 (k : Nat) (A B : Int) : pok 1 k A B = (decide (B = 0) && inl k A) := by simp [pok]
theorem pok2 (k : Nat) (A B : Int) : pok 2 k A B = (inl k A && inl k B) := by simp [pok]
theorem bind_if {p : Prop} [Decidable p] (s : List Int) : (if p then some s else none).bind rgo = if p then rgo s else none := by
  by_cases h : p <;> simp [h]
theorem rgo_const {s : List Int} {p q : Prop} [Decidable p] [Decidable q] [Decidable (Sp.Rgt s ∧ q)] (h : p ↔ q) : (if p then rgo s else none) = if Sp.Rgt s ∧ q then some s else none := by
  by_cases hq : q
  · rw [if_pos (h.2 hq)]
    unfold rgo
    by_cases hs : Sp.Rgt s
    · rw [if_pos hs, if_pos ⟨hs, hq⟩]
    · rw [if_neg hs, if_neg fun c => hs c.1]
  · rw [if_neg (fun c => hq (h.1 c)), if_neg fun c => hq c.2]
theorem cases_no {op : ByteArray} (h : prs op = some 0) : op = str lParam ∨ op = str lInput ∨ op = str lConst := by
  rcases prs_some h with ⟨_, a, ha, rfl⟩ | ⟨c, _⟩ | ⟨c, _⟩
  · simp only [noLs, List.mem_cons, List.not_mem_nil, or_false] at ha
    rcases ha with rfl | rfl | rfl <;> simp
  · cases c
  · cases c
theorem cases_one {op : ByteArray} (h : prs op = some 1) : op = str lRelu ∨ op = str lAbs ∨ op = str lStep ∨ op = str lSign ∨ op = str lScale ∨ op = str lPower ∨ op = str lTranspose ∨ op = str lSum ∨ op = str lReshape ∨ op = str lSpread := by
  rcases prs_some h with ⟨c, _⟩ | ⟨_, a, ha, rfl⟩ | ⟨c, _⟩
  · cases c
  · simp only [oneLs, List.mem_cons, List.not_mem_nil, or_false] at ha
    rcases ha with rfl | rfl | rfl | rfl | rfl | rfl | rfl | rfl | rfl | rfl <;> simp
  · cases c
theorem cases_two {op : ByteArray} (h : prs op = some 2) : op = str lAdd ∨ op = str lSub ∨ op = str lMul ∨ op = str lMax ∨ op = str lAbove ∨ op = str lMatmul := by
  rcases prs_some h with ⟨c, _⟩ | ⟨c, _⟩ | ⟨_, a, ha, rfl⟩
  · cases c
  · cases c
  · simp only [twoLs, List.mem_cons, List.not_mem_nil, or_false] at ha
    rcases ha with rfl | rfl | rfl | rfl | rfl | rfl <;> simp
theorem prs_le {x : ByteArray} {m : Nat} (h : prs x = some m) : m = 0 ∨ m = 1 ∨ m = 2 := by
  rcases prs_some h with h | h | h <;> simp [h.1]
theorem own_two {n : Nd} {a b : List Int} (h : prs n.op = some 2) : own n a b = (pai n.op a b).bind rgo := by
  rcases cases_two h with e | e | e | e | e | e <;> simp [own, pai, e, isw_str_eq, bind_if]
theorem own_one {n : Nd} {a b : List Int} (ha : Sp.Rgt a) (h : prs n.op = some 1) : own n a b = (sgl n a).bind rgo := by
  have hr : ∀ p : Prop, [Decidable p] → (if p then rgo n.shape else none) = if Sp.Rgt n.shape ∧ p then some n.shape else none := fun p _ => rgo_const Iff.rfl
  rcases cases_one h with e | e | e | e | e | e | e | e | e | e <;> simp only [own, sgl, e, isw_str_eq, bind_if]
  all_goals simp only [List.cons_beq_cons, Bool.and_true, Bool.true_and, Bool.false_and, Bool.and_false, beq_self_eq_true, List.any_cons, List.any_nil, isw_str_eq]
  all_goals simp [bind_if, rgo, ha]
  · decide
  · simp only [rgo] at hr; have := hr (Sp.szI n.shape = Sp.szI a); rw [this]; congr 1; exact propext ⟨fun c => ⟨c.1, c.2.2⟩, fun c => ⟨c.1, ha, c.2⟩⟩
theorem own_no {n : Nd} {a b : List Int} (h : prs n.op = some 0) (hn : nok n.op n.name = true) : own n a b = (if gvn n = true then some n.shape else none).bind rgo := by
  rcases cases_no h with e | e | e
  · have : gvn n = true := by
      rw [e] at hn; unfold nok at hn; unfold gvn nmd
      rw [e]; simpa [isw_str_eq] using hn
    rw [this]
    simp [own, e, isw_str_eq]
  · have : gvn n = true := by
      rw [e] at hn; unfold nok at hn; unfold gvn nmd
      rw [e]; simpa [isw_str_eq] using hn
    rw [this]
    simp [own, e, isw_str_eq]
  · simp only [own, e, isw_str_eq, bind_if, gvn, nmd]
    simp
    exact (rgo_const (by simp)).symm
theorem nok_one {op name : ByteArray} {m : Nat} (h : prs op = some m) (hm : 0 < m) : nok op name = decide (name.size = 0) ∧ nmd op = false := by
  have h0 : nmd op = false := by
    rcases prs_le h with rfl | rfl | rfl
    · cases hm
    · rcases cases_one h with e | e | e | e | e | e | e | e | e | e <;> rw [e] <;> decide
    · rcases cases_two h with e | e | e | e | e | e <;> rw [e] <;> decide
  refine ⟨?_, h0⟩
  unfold nok; unfold nmd at h0
  rw [h0]; rfl
theorem inf_shp {l : List Nd} (hl : ∀ i, i < l.length → Sp.Rgt (l.getD i zn).shape) (n : Nd) : inf l n = shp l n := by
  unfold inf shp mad pla
  cases h : prs n.op with
  | none => simp
  | some m =>
    rcases prs_le h with rfl | rfl | rfl
    · by_cases hp : pok 0 l.length n.a n.b = true ∧ nok n.op n.name = true ∧ fok n = true
      · obtain ⟨h1, h2, h3⟩ := hp
        simp only
        rw [if_pos (show pok 0 l.length n.a n.b = true ∧ nok n.op n.name = true ∧ fok n = true from ⟨h1, h2, h3⟩), own_no h h2]
        have h4 : (nmd n.op || decide (n.name.size = 0)) = true := by
          unfold nok at h2; unfold nmd
          split at h2
          · rename_i c; rw [c]; rfl
          · rw [h2]; simp
        rw [pok0] at h1
        rw [if_pos (show (decide (n.b = 0) && decide (n.a = 0) && (nmd n.op || decide (n.name.size = 0)) && fok n) = true by rw [h4, h3, Bool.and_comm (decide (n.b = 0)), h1]; rfl)]
      · simp only
        rw [if_neg hp]
        split
        · rename_i c
          simp only [Bool.and_eq_true] at c
          have h1 : pok 0 l.length n.a n.b = true := by rw [pok0, Bool.and_eq_true]; exact ⟨c.1.1.2, c.1.1.1⟩
          have h2 : nok n.op n.name = false := by
            cases e : nok n.op n.name with
            | false => rfl
            | true => exact absurd ⟨h1, e, c.2⟩ hp
          have h5 : gvn n = false := by
            unfold nok at h2; unfold gvn nmd
            split at h2
            · rename_i c1; rw [if_pos c1]; exact h2
            · rename_i c1
              have := c.1.2
              unfold nmd at this
              rw [h2, Bool.or_false] at this
              exact absurd this c1
          rw [h5]; rfl
        · rfl
    · obtain ⟨h2, h3⟩ := nok_one (name := n.name) h (by omega)
      simp only
      rw [h2, h3, pok1, Bool.false_or]
      by_cases hA : inl l.length n.a = true
      · rw [hA, Bool.and_true]
        have := own_one (b := if 1 < 1 then sha l n.b else []) (sha_rgt hl hA) h
        simp only [Nat.lt_irrefl, if_false, Nat.zero_lt_one, if_true] at this ⊢
        rw [this]
        by_cases c : (decide (n.b = 0) && decide (n.name.size = 0) && fok n) = true
        · rw [if_pos c, if_pos (by simpa [and_assoc] using c)]
        · rw [if_neg c, if_neg (by simpa [and_assoc] using c)]
      · simp [hA]
    · obtain ⟨h2, h3⟩ := nok_one (name := n.name) h (by omega)
      simp only
      rw [h2, h3, pok2, Bool.false_or, Bool.true_and]
      by_cases hA : inl l.length n.a = true ∧ inl l.length n.b = true
      · rw [if_pos hA, hA.1, hA.2]
        have := own_two (a := sha l n.a) (b := sha l n.b) h
        simp only [Nat.lt_irrefl, if_false, Nat.zero_lt_two, Nat.one_lt_two, if_true] at this ⊢
        rw [this]
        by_cases c : (decide (n.name.size = 0) && fok n) = true
        · rw [if_pos c, if_pos (by simpa using c)]
        · rw [if_neg c, if_neg (by simpa using c)]
      · rw [if_neg hA]
        rw [if_neg (show ¬ ((inl l.length n.a && inl l.length n.b) = true ∧ decide (n.name.size = 0) = true ∧ fok n = true) by rintro ⟨c, _⟩; rw [Bool.and_eq_true] at c; exact hA c)]
        split <;> rfl
end Go.Proofs.YtadgnafafdfioaaGreatDoor.Gr
