/-
  A REGION THAT DRAWS, PART BY PART: the first steps only read, and the next one waits for all of them; what the others do is asked order by order. Nothing of the program's text is named here. Conditions: each theorem's own.
-/
import Derived.Test.YtadgnafafdfioaaGreatDoorGX
import Derived.Deep.RegionLaw
import Derived.Deep.RegionWith
import Derived.Deep.Cut
namespace Go.Proofs.YtadgnafafdfioaaGreatDoor.Gr
open Go.Proofs.YtadgnafafdfioaaGreatDoor.Rd
set_option maxRecDepth 100000
open Go.RowKit
set_option linter.unusedVariables false
set_option linter.unusedSimpArgs false

/-- step j has been -/
abbrev on (L : Array Bool) (j : Nat) : Prop := L.getD j false = true
theorem on_set {L : Array Bool} {i j : Nat} (h : on (L.setIfInBounds i true) j) (hij : j ≠ i) : on L j := by
  unfold on at *
  rwa [getD_set_ne false (Ne.symm hij)] at h
theorem lcount {l : List Bool} {i : Nat} (h : l[i]? = some false) : (l.set i true).count false + 1 = l.count false := by
  induction l generalizing i with
  | nil => simp at h
  | cons b l ih =>
    cases i with
    | zero => simp at h; subst h; simp
    | succ i =>
      simp only [List.set_cons_succ, List.count_cons]
      have := ih (i := i) (by simpa using h)
      omega
theorem count_less {L : Array Bool} {i : Nat} (h : L.getD i true = false) : (L.setIfInBounds i true).toList.count false + 1 = L.toList.count false := by
  have hi : i < L.size := by
    rcases Nat.lt_or_ge i L.size with c | c
    · exact c
    · simp [Nat.not_lt.2 c] at h
  have e : (L.setIfInBounds i true).toList = L.toList.set i true := by simp
  rw [e]
  refine lcount ?_
  simp [hi] at h
  simp [hi, h]
/-- whatever order: by what stands at each point -/
theorem wpAny_inv {P : Program} {md : Region.Mode} {ops : Array Oper} {Q : Exit → Act → World → Prop} (I : Array Bool → Act → World → Prop)
    (hs : ∀ L a w i, I L a w → i ∈ Region.ready md ops L → wpOp P ops Q i (fun a' w' => I (L.setIfInBounds i true) a' w') a w)
    (hd : ∀ L a w, I L a w → Region.ready md ops L = [] → Q .normal a w) :
    ∀ (f : Nat) (L : Array Bool) (a : Act) (w : World), L.toList.count false ≤ f → I L a w → wpAny P md ops Q f L a w := by
  intro f
  induction f with
  | zero =>
    intro L a w hc hI
    have hr : Region.ready md ops L = [] := by
      apply List.eq_nil_iff_forall_not_mem.2
      intro i hi
      have := count_less (mem_ready.1 hi).1
      omega
    exact ⟨hr, hd L a w hI hr⟩
  | succ f ih =>
    intro L a w hc hI
    refine ⟨fun h => hd L a w hI h, fun i hi => ?_⟩
    have := count_less (mem_ready.1 hi).1
    exact wpOp_mono (fun a' w' h => ih _ a' w' (by omega) h) (hs L a w i hI hi)

theorem on_eq {L : Array Bool} {i j : Nat} (hij : j ≠ i) : (L.setIfInBounds i true).getD j false = L.getD j false := getD_set_ne false (Ne.symm hij)
theorem on_self {L : Array Bool} {i : Nat} (h : i < L.size) : on (L.setIfInBounds i true) i := by simp [on, h]
theorem off_of {L : Array Bool} {j : Nat} (h : L.getD j true = false) : ¬ on L j := by
  intro c
  unfold on at c
  rcases Nat.lt_or_ge j L.size with g | g
  · simp [g] at h c; rw [h] at c; cases c
  · simp [Nat.not_lt.2 g] at h
theorem off {L : Array Bool} {j : Nat} (hj : j < L.size) (h : ¬ on L j) : L.getD j true = false := by
  unfold on at h
  simp [hj] at h ⊢
  exact h
theorem step_run {P : Program} {ops : Array Oper} {Q : Exit → Act → World → Prop} {i : Nat} {o : Oper} {K : Act → World → Prop} {a : Act} {w : World} (ho : ops[i]? = some o) (hg : o.guard = none) (h : o.wp P a w K Q) : wpOp P ops Q i K a w := by
  unfold wpOp
  rw [ho]
  have hw : Region.wanted o (yielded ops a.tmps) = true := by simp [Region.wanted, hg]
  simp only [hw, if_true]
  exact Or.inl h
theorem on_up {L : Array Bool} {i j : Nat} (h : on L j) : on (L.setIfInBounds i true) j := by
  by_cases e : j = i
  · subst e
    refine on_self ?_
    unfold on at h
    rcases Nat.lt_or_ge j L.size with g | g
    · exact g
    · simp [Nat.not_lt.2 g] at h
  · unfold on; rw [on_eq e]; exact h
theorem step_runw {P : Program} {ops : Array Oper} {Q : Exit → Act → World → Prop} {i : Nat} {o : Oper} {K : Act → World → Prop} {a : Act} {w : World} (ho : ops[i]? = some o) (hw : Region.wanted o (yielded ops a.tmps) = true) (h : o.wp P a w K Q) : wpOp P ops Q i K a w := by
  unfold wpOp
  rw [ho]
  simp only [hw, if_true]
  exact Or.inl h
/-- the first m steps wait for none behind them; each later one waits for step m - 1, or for a later one; each of the first but the last has one among them, behind it, that waits for it -/
def barB (md : Region.Mode) (l : List Oper) (m : Nat) : Bool :=
  decide (0 < m) && decide (m ≤ l.length) &&
  (List.range m).all (fun j => (l[j]?).all fun o => o.after.all fun e => !Region.binds md e || decide (e.on < j)) &&
  (List.range m).all (fun j => (l[j]?).all fun o => (o.guard.map fun g => decide (g.1 < m)).getD true) &&
  (List.range l.length).all (fun j => decide (j ≤ m) || (l[j]?).all fun o => o.after.any fun e => Region.binds md e && decide (m ≤ e.on)) &&
  (List.range m).all (fun i => (List.range (m + 1)).any fun j => decide (i < j) && (l[j]?).any fun o => o.after.any fun e => Region.binds md e && decide (e.on = i))

section
variable {P : Program} {md : Region.Mode} {l : List Oper} {m : Nat} {C : World → Prop}
theorem bar_spec (h : barB md l m = true) : 0 < m ∧ m ≤ l.length ∧
    (∀ j, j < m → ∀ o, l[j]? = some o → ∀ e ∈ o.after, Region.binds md e = true → e.on < j) ∧
    (∀ j, j < m → ∀ o, l[j]? = some o → ∀ g b, o.guard = some (g, b) → g < m) ∧
    (∀ j, m < j → ∀ o, l[j]? = some o → ∃ e ∈ o.after, Region.binds md e = true ∧ m ≤ e.on) ∧
    (∀ i, i < m → ∃ j o, i < j ∧ j ≤ m ∧ l[j]? = some o ∧ ∃ e ∈ o.after, Region.binds md e = true ∧ e.on = i) := by
  unfold barB at h
  simp only [Bool.and_eq_true, decide_eq_true_eq, List.all_eq_true, List.mem_range] at h
  obtain ⟨⟨⟨⟨⟨h0, h1⟩, h2⟩, h3⟩, h4⟩, h5⟩ := h
  refine ⟨h0, h1, fun j hj o ho e he hb => ?_, fun j hj o ho g b hg => ?_, fun j hj o ho => ?_, fun i hi => ?_⟩
  · have := h2 j hj
    rw [ho] at this
    have := (Array.all_eq_true_iff_forall_mem.1 this) e he
    rw [hb] at this
    simpa using this
  · have := h3 j hj
    rw [ho] at this
    simp [hg] at this
    exact this
  · have hlt : j < l.length := (List.getElem?_eq_some_iff.1 ho).1
    have := h4 j hlt
    rw [ho] at this
    simp only [Bool.or_eq_true, decide_eq_true_eq] at this
    rcases this with c | c
    · omega
    · obtain ⟨e, he, hb⟩ := Array.any_eq_true'.1 c
      simp only [Bool.and_eq_true, decide_eq_true_eq] at hb
      exact ⟨e, he, hb.1, hb.2⟩
  · have := h5 i (by omega)
    obtain ⟨j, hj, hb⟩ := List.any_eq_true.1 this
    simp only [Bool.and_eq_true, decide_eq_true_eq] at hb
    cases ho : l[j]? with
    | none => rw [ho] at hb; simp at hb
    | some o =>
      rw [ho] at hb
      obtain ⟨e, he, hb2⟩ := Array.any_eq_true'.1 hb.2
      simp only [Bool.and_eq_true, decide_eq_true_eq] at hb2
      exact ⟨j, o, hb.1, by have := List.mem_range.1 hj; omega, ho, e, he, hb2.1, hb2.2⟩

/-- listed: the first m as told, none of the others -/
def pad (L : Array Bool) (k : Nat) : Array Bool := L ++ Array.replicate k false
theorem pad_lt {L : Array Bool} {k j : Nat} (d : Bool) (h : j < L.size) : (pad L k).getD j d = L.getD j d := by
  unfold pad
  simp [h, Array.getElem?_append_left h]
theorem pad_ge {L : Array Bool} {k j : Nat} (h : L.size ≤ j) : (pad L k).getD j false = false := by
  unfold pad
  simp [Array.getElem?_append_right h]
  cases h9 : (Array.replicate k false)[j - L.size]? with
  | none => rfl
  | some a =>
    have := (Array.getElem?_eq_some_iff.1 h9).2
    simp at this
    simp [← this]
theorem pad_set {L : Array Bool} {k i : Nat} (h : i < L.size) : (pad L k).setIfInBounds i true = pad (L.setIfInBounds i true) k := by
  unfold pad
  apply Array.ext_getElem?
  intro j
  by_cases hj : j < L.size
  · rw [Array.getElem?_setIfInBounds, Array.getElem?_append_left hj, Array.getElem?_append_left (by simpa using hj), Array.getElem?_setIfInBounds]
    by_cases e : i = j
    · subst e; simp [h]; omega
    · simp [e]
  · rw [Array.getElem?_setIfInBounds, Array.getElem?_append_right (by omega), Array.getElem?_append_right (by simpa using hj)]
    have : ¬ i = j := by omega
    simp [this]
theorem bar_ready (hl : barB md l m = true) {L : Array Bool} {k : Nat} (hL : L.size = m) {j : Nat} (hj : j < m) :
    j ∈ Region.ready md l.toArray (pad L k) ↔ j ∈ Region.ready md (l.take m).toArray L := by
  obtain ⟨h0, h1, h2, h3, h4, h5⟩ := bar_spec hl
  rw [mem_ready, mem_ready, get_take hj, pad_lt true (by omega)]
  refine and_congr_right fun _ => exists_congr fun o => and_congr_right fun ho => ?_
  have ho' : l[j]? = some o := by rwa [List.getElem?_toArray] at ho
  refine forall_congr' fun e => forall_congr' fun he => forall_congr' fun hb => ?_
  rw [pad_lt false (by have := h2 j hj o ho' e he hb; omega)]
/-- what has been leaves nothing out -/
def shutB (md : Region.Mode) (l : List Oper) (L : Array Bool) : Prop := ∀ j o, L.getD j false = true → l[j]? = some o → ∀ e ∈ o.after, Region.binds md e = true → L.getD e.on false = true
/-- a later step is ready only when all of the first have been -/
theorem bar_later (hl : barB md l m = true) {L : Array Bool} {k : Nat} (hL : L.size = m) (hs : shutB md l L) {j : Nat} (hj : m ≤ j) (hr : j ∈ Region.ready md l.toArray (pad L k)) : ∀ i, i < m → L.getD i false = true := by
  obtain ⟨h0, h1, h2, h3, h4, h5⟩ := bar_spec hl
  obtain ⟨_, o, ho, hall⟩ := mem_ready.1 hr
  rw [List.getElem?_toArray] at ho
  have hjm : j = m := by
    rcases Nat.lt_or_ge m j with c | c
    · exfalso
      obtain ⟨e, he, hb, hc⟩ := h4 j c o ho
      have hon := hall e he hb
      rw [pad_ge (by omega)] at hon; cases hon
    · omega
  subst hjm
  have key : ∀ d i, i < j → j - i = d → L.getD i false = true := by
    intro d
    induction d using Nat.strongRecOn with
    | _ d ih =>
      intro i hi hd
      obtain ⟨j', o', hij, hjm, hjo, e, he, hb, heq⟩ := h5 i hi
      by_cases e1 : j' = j
      · subst e1
        rw [ho] at hjo
        cases hjo
        have hon := hall e he hb
        rw [heq, pad_lt false (by omega)] at hon
        exact hon
      · have hjl := ih (j - j') (by omega) j' (by omega) rfl
        rw [← heq]
        exact hs j' o' hjl hjo e he hb
  exact fun i hi => key _ i hi rfl
theorem wanted_bar (hl : barB md l m = true) {j : Nat} (hj : j < m) {o : Oper} (ho : l[j]? = some o) (t : Array Value) : Region.wanted o (yielded (l.take m).toArray t) = Region.wanted o (yielded l.toArray t) := by
  obtain ⟨h0, h1, h2, h3, h4, h5⟩ := bar_spec hl
  unfold Region.wanted
  cases hg : o.guard with
  | none => rfl
  | some g =>
    obtain ⟨g, b⟩ := g
    have := h3 j hj o ho g b hg
    show (yielded (l.take m).toArray t g == some b) = (yielded l.toArray t g == some b)
    unfold yielded
    rw [get_take this]
theorem bar_all (hl : barB md l m = true) {L : Array Bool} (hL : L.size = m) (h0 : Region.ready md (l.take m).toArray L = []) : ∀ j, j < m → L.getD j false = true := by
  obtain ⟨g0, h1, h2, h3, h4, h5⟩ := bar_spec hl
  intro j
  induction j using Nat.strongRecOn with
  | _ j ih =>
    intro hj
    cases hc : L.getD j false with
    | true => rfl
    | false =>
      exfalso
      have hlt : j < L.size := by omega
      have ho : l[j]? = some (l[j]'(by omega)) := List.getElem?_eq_getElem (by omega)
      have : j ∈ Region.ready md (l.take m).toArray L := by
        rw [mem_ready]
        refine ⟨by simp [hlt] at hc ⊢; exact hc, l[j]'(by omega), by rw [get_take hj, List.getElem?_toArray]; exact ho, fun e he hb => ?_⟩
        have := h2 j hj _ ho e he hb
        exact ih e.on this (by omega)
      rw [h0] at this; cases this
theorem full_of {L : Array Bool} (hL : L.size = m) (h : ∀ j, j < m → L.getD j false = true) : L = Array.replicate m true := by
  apply Array.ext_getElem?
  intro j
  by_cases hj : j < m
  · have hlt : j < L.size := by omega
    have := h j hj
    simp [hlt] at this
    simp [hj, hlt, this]
  · rw [Array.getElem?_eq_none (by omega), Array.getElem?_eq_none (by simp; omega)]
theorem shut_set {L : Array Bool} {i : Nat} (hs : shutB md l L) (hL : L.size = m) (hi : i < m) (hr : i ∈ Region.ready md (l.take m).toArray L) : shutB md l (L.setIfInBounds i true) := by
  obtain ⟨_, o, ho, hall⟩ := mem_ready.1 hr
  intro j oj hj hoj e he hb
  by_cases e1 : e.on = i
  · rw [e1]; simp [hL, hi]
  · rw [getD_set_ne false (Ne.symm e1)]
    by_cases e2 : j = i
    · subst e2
      rw [get_take hi, List.getElem?_toArray] at ho
      rw [hoj] at ho
      cases ho
      exact hall e he hb
    · rw [getD_set_ne false (Ne.symm e2)] at hj
      exact hs j oj hj hoj e he hb
theorem q_bar (hl : barB md l m = true) {i : Nat} (hi : i < m) {K : Act → Prop} {a : Act} (h : qOp P (l.take m).toArray C i K a) : qOp P l.toArray C i K a := by
  have h1 := (bar_spec hl).2.1
  have ho : l[i]? = some (l[i]'(by omega)) := List.getElem?_eq_getElem (by omega)
  unfold qOp at *
  rw [get_take hi] at h
  rw [List.getElem?_toArray, ho] at h ⊢
  simp only [wanted_bar hl hi ho] at h
  exact h
theorem any_bar (hl : barB md l m = true) {Q : Exit → Act → World → Prop} (k : Nat) : ∀ (f : Nat) (L : Array Bool) (a : Act) (w : World), L.size = m → shutB md l L → C w → L.toList.count false = f →
    wpAnyQ P md (l.take m).toArray C (fun a' => ∀ w', C w' → wpAny P md l.toArray Q k (pad (Array.replicate m true) k) a' w') f L a → wpAny P md l.toArray Q (f + k) (pad L k) a w := by
  intro f
  induction f with
  | zero =>
    intro L a w hL hs hC hf h
    have := full_of hL (bar_all hl hL h.1)
    rw [Nat.zero_add, this]
    exact h.2 w hC
  | succ f ih =>
    intro L a w hL hs hC hf h
    have hno : ¬ ∀ i, i < m → L.getD i false = true := fun c => by
      have := full_of hL c
      rw [this] at hf
      simp [List.count_replicate] at hf
    rw [show f + 1 + k = (f + k) + 1 by omega]
    refine ⟨fun h0 => ?_, fun i hi => ?_⟩
    · exfalso
      apply hno
      apply bar_all hl hL
      apply List.eq_nil_iff_forall_not_mem.2
      intro i hi
      have hin : i < m := by
        obtain ⟨_, o, ho, _⟩ := mem_ready.1 hi
        have := (Array.getElem?_eq_some_iff.1 ho).1
        simp at this
        omega
      have := (bar_ready hl (k := k) hL hin).2 hi
      rw [h0] at this; cases this
    · rcases Nat.lt_or_ge i m with hin | hin
      · have hr := (bar_ready hl hL hin).1 hi
        refine wpOp_of_qOp hC (fun a' w' hC' hK => ?_) (q_bar hl hin (h.2 i hr))
        rw [pad_set (by omega)]
        refine ih _ a' w' (by simp [hL]) (shut_set hs hL hin hr) hC' ?_ hK
        have := count_less (mem_ready.1 hr).1
        omega
      · exact absurd (bar_later hl hL hs hin hi) hno
theorem walk_bar (hl : barB md l m = true) {Q : Act → Prop} : ∀ (n j : Nat) (a : Act), j + n = m → wpQuiet P l.toArray C Q ((l.take m).drop j) a → wpQuiet P (l.take m).toArray C Q ((l.take m).drop j) a := by
  have h1 := (bar_spec hl).2.1
  intro n
  induction n with
  | zero =>
    intro j a hj h
    rw [List.drop_eq_nil_of_le (by simp; omega)] at h ⊢
    exact h
  | succ n ih =>
    intro j a hj h
    have hlt : j < (l.take m).length := by simp; omega
    have ho : l[j]? = some ((l.take m)[j]) := by rw [List.getElem_take]; exact List.getElem?_eq_getElem (by omega)
    rw [List.drop_eq_getElem_cons hlt] at h ⊢
    unfold wpQuiet at h ⊢
    rw [wanted_bar hl (by omega) ho]
    split at h
    · rename_i hw; rw [if_pos hw]; exact Oper.quiet_mono (fun a' h' => ih (j + 1) a' (by omega) h') h
    · rename_i hw; rw [if_neg hw]; exact ih (j + 1) _ (by omega) h
theorem rep_off (m j : Nat) : (Array.replicate m false).getD j false = false := by
  rw [Array.getD_eq_getD_getElem?, Array.getElem?_replicate]
  split <;> rfl
theorem region_bar {id : Nat} {Q : Exit → Act → World → Prop} {a : Act} {w : World} (m : Nat) (C : World → Prop) (hm : P.follows .mixedOrders = true) (hB : Region.lexB .any (l.take m).toArray = true) (hl : barB .any l m = true) (hC : C w.drew)
    (h : wpQuiet P l.toArray C (fun a' => ∀ w', C w' → wpAny P .any l.toArray Q (l.length - m) (pad (Array.replicate m true) (l.length - m)) a' w') (l.take m) a) : (Code.region id l.toArray true).wp P Q a w := by
  have h1 := (bar_spec hl).2.1
  simp only [Region.lexB, Bool.and_eq_true] at hB
  have hlen : (l.take m).length = m := by rw [List.length_take]; omega
  have hq := wpAnyQ_lex (P := P) (C := C) (md := .any) hB.1 (l.take m) 0 (Array.replicate (l.take m).toArray.size false) a (by simp) (by simpa using hB.2) (by simpa using walk_bar hl m 0 a (by omega) (by simpa using h))
  refine wp_region_any hm ?_
  have e : l.toArray.size = m + (l.length - m) := by simp; omega
  rw [e]
  have e2 : Array.replicate (m + (l.length - m)) false = pad (Array.replicate m false) (l.length - m) := by unfold pad; simp
  rw [e2]
  rw [hlen] at hq
  have e3 : (l.take m).toArray.size = m := by simp; omega
  rw [e3] at hq
  exact any_bar hl (l.length - m) m _ a _ (by simp) (fun j o hj => by
    rw [rep_off] at hj; cases hj) hC (by simp) hq
end
section
variable {P : Program} {md : Region.Mode} {ops : Array Oper} {Q : Exit → Act → World → Prop} {f : Nat} {L : Array Bool} {a : Act} {w : World}
theorem any_end (hr : Region.ready md ops L = []) (h : Q .normal a w) : wpAny P md ops Q 0 L a w := ⟨hr, h⟩
/-- one step is ready -/
theorem any_one (i : Nat) (o : Oper) (hr : Region.ready md ops L = [i]) (ho : ops[i]? = some o)
    (h : ∀ K : Act → World → Prop, (∀ a' w', wpAny P md ops Q f (L.setIfInBounds i true) a' w' → K a' w') → if Region.wanted o (yielded ops a.tmps) = true then o.wp P a w K Q else K (a.put o.dst undef) w) : wpAny P md ops Q (f + 1) L a w := by
  refine ⟨fun h0 => (by rw [hr] at h0; cases h0), fun j hj => ?_⟩
  rw [hr] at hj
  rw [List.mem_singleton.1 hj]
  have := h _ (fun _ _ h => h)
  unfold wpOp
  rw [ho]
  by_cases hw : Region.wanted o (yielded ops a.tmps) = true
  · simp only [hw, if_true] at this ⊢; exact Or.inl this
  · simp only [hw] at this ⊢; exact this
/-- step i may come ahead of j, behind it, or behind k, which waits for j -/
theorem any_fork (i j k : Nat) (M : Array Bool) (h0 : Region.ready md ops L = [i, j]) (h1 : Region.ready md ops (L.setIfInBounds i true) = [j]) (h2 : Region.ready md ops ((L.setIfInBounds i true).setIfInBounds j true) = [k])
    (h3 : Region.ready md ops (L.setIfInBounds j true) = [i, k]) (h4 : Region.ready md ops ((L.setIfInBounds j true).setIfInBounds i true) = [k]) (h5 : Region.ready md ops ((L.setIfInBounds j true).setIfInBounds k true) = [i])
    (e1 : ((L.setIfInBounds i true).setIfInBounds j true).setIfInBounds k true = M) (e2 : ((L.setIfInBounds j true).setIfInBounds i true).setIfInBounds k true = M) (e3 : ((L.setIfInBounds j true).setIfInBounds k true).setIfInBounds i true = M)
    (h : ∀ K : Act → World → Prop, (∀ a' w', wpAny P md ops Q f M a' w' → K a' w') → wpOp P ops Q i (wpOp P ops Q j (wpOp P ops Q k K)) a w ∧ wpOp P ops Q j (fun a' w' => wpOp P ops Q i (wpOp P ops Q k K) a' w' ∧ wpOp P ops Q k (wpOp P ops Q i K) a' w') a w) : wpAny P md ops Q (f + 1 + 1 + 1) L a w := by
  obtain ⟨hA, hB⟩ := h _ (fun _ _ h => h)
  have one : ∀ {L' : Array Bool} {x : Nat} {g : Nat} {a' : Act} {w' : World}, Region.ready md ops L' = [x] → wpOp P ops Q x (wpAny P md ops Q g (L'.setIfInBounds x true)) a' w' → wpAny P md ops Q (g + 1) L' a' w' := fun {L' x g a' w'} hr hx => ⟨fun c => (by rw [hr] at c; cases c), fun y hy => by rw [hr] at hy; rw [List.mem_singleton.1 hy]; exact hx⟩
  refine ⟨fun c => (by rw [h0] at c; cases c), fun y hy => ?_⟩
  rw [h0] at hy
  simp only [List.mem_cons, List.not_mem_nil, or_false] at hy
  rcases hy with rfl | rfl
  · refine wpOp_mono (fun a1 w1 g1 => one h1 ?_) hA
    refine wpOp_mono (fun a2 w2 g2 => one h2 ?_) g1
    refine wpOp_mono (fun a3 w3 g3 => ?_) g2
    rw [e1]; exact g3
  · refine wpOp_mono (fun a1 w1 g1 => ⟨fun c => (by rw [h3] at c; cases c), fun y hy => ?_⟩) hB
    rw [h3] at hy
    simp only [List.mem_cons, List.not_mem_nil, or_false] at hy
    rcases hy with rfl | rfl
    · refine wpOp_mono (fun a2 w2 g2 => one h4 ?_) g1.1
      refine wpOp_mono (fun a3 w3 g3 => ?_) g2
      rw [e2]; exact g3
    · refine wpOp_mono (fun a2 w2 g2 => one h5 ?_) g1.2
      refine wpOp_mono (fun a3 w3 g3 => ?_) g2
      rw [e3]; exact g3
theorem any_fork' (i j k : Nat) (M : Array Bool) (h0 : Region.ready md ops L = [j, i]) (h1 : Region.ready md ops (L.setIfInBounds i true) = [j]) (h2 : Region.ready md ops ((L.setIfInBounds i true).setIfInBounds j true) = [k])
    (h3 : Region.ready md ops (L.setIfInBounds j true) = [i, k]) (h4 : Region.ready md ops ((L.setIfInBounds j true).setIfInBounds i true) = [k]) (h5 : Region.ready md ops ((L.setIfInBounds j true).setIfInBounds k true) = [i])
    (e1 : ((L.setIfInBounds i true).setIfInBounds j true).setIfInBounds k true = M) (e2 : ((L.setIfInBounds j true).setIfInBounds i true).setIfInBounds k true = M) (e3 : ((L.setIfInBounds j true).setIfInBounds k true).setIfInBounds i true = M)
    (h : ∀ K : Act → World → Prop, (∀ a' w', wpAny P md ops Q f M a' w' → K a' w') → wpOp P ops Q i (wpOp P ops Q j (wpOp P ops Q k K)) a w ∧ wpOp P ops Q j (fun a' w' => wpOp P ops Q i (wpOp P ops Q k K) a' w' ∧ wpOp P ops Q k (wpOp P ops Q i K) a' w') a w) : wpAny P md ops Q (f + 1 + 1 + 1) L a w := by
  obtain ⟨hA, hB⟩ := h _ (fun _ _ h => h)
  have one : ∀ {L' : Array Bool} {x : Nat} {g : Nat} {a' : Act} {w' : World}, Region.ready md ops L' = [x] → wpOp P ops Q x (wpAny P md ops Q g (L'.setIfInBounds x true)) a' w' → wpAny P md ops Q (g + 1) L' a' w' := fun {L' x g a' w'} hr hx => ⟨fun c => (by rw [hr] at c; cases c), fun y hy => by rw [hr] at hy; rw [List.mem_singleton.1 hy]; exact hx⟩
  refine ⟨fun c => (by rw [h0] at c; cases c), fun y hy => ?_⟩
  rw [h0] at hy
  simp only [List.mem_cons, List.not_mem_nil, or_false] at hy
  rcases hy.symm with rfl | rfl
  · refine wpOp_mono (fun a1 w1 g1 => one h1 ?_) hA
    refine wpOp_mono (fun a2 w2 g2 => one h2 ?_) g1
    refine wpOp_mono (fun a3 w3 g3 => ?_) g2
    rw [e1]; exact g3
  · refine wpOp_mono (fun a1 w1 g1 => ⟨fun c => (by rw [h3] at c; cases c), fun y hy => ?_⟩) hB
    rw [h3] at hy
    simp only [List.mem_cons, List.not_mem_nil, or_false] at hy
    rcases hy with rfl | rfl
    · refine wpOp_mono (fun a2 w2 g2 => one h4 ?_) g1.1
      refine wpOp_mono (fun a3 w3 g3 => ?_) g2
      rw [e2]; exact g3
    · refine wpOp_mono (fun a2 w2 g2 => one h5 ?_) g1.2
      refine wpOp_mono (fun a3 w3 g3 => ?_) g2
      rw [e3]; exact g3
/-- several ways to one end: the end is asked once -/
theorem one_end {K : Act → World → Prop} {w : World} {a : Act} {G : Prop} (h : K a w → G) (k : K a w) : G := h k
/-- a step of a drawn region, as the walk takes it -/
theorem op_step (i : Nat) (o : Oper) {K0 : Act → World → Prop} (ho : ops[i]? = some o) (h : ∀ K : Act → World → Prop, (∀ a' w', K0 a' w' → K a' w') → if Region.wanted o (yielded ops a.tmps) = true then o.wp P a w K Q else K (a.put o.dst undef) w) : wpOp P ops Q i K0 a w := by
  have := h _ (fun _ _ h => h)
  unfold wpOp
  rw [ho]
  by_cases hw : Region.wanted o (yielded ops a.tmps) = true
  · simp only [hw, if_true] at this ⊢; exact Or.inl this
  · simp only [hw] at this ⊢; exact this
end

section
variable {P : Program} {md : Region.Mode} {l : List Oper} {m : Nat}
theorem full_zero {L : Array Bool} (hL : L.size = m) (hf : L.toList.count false = 0) : ∀ j, j < m → L.getD j false = true := by
  intro j hj
  have hlt : j < L.size := by omega
  cases hc : L.getD j false with
  | true => rfl
  | false =>
    exfalso
    have hm : false ∈ L.toList := by
      simp [hlt] at hc
      rw [← hc]
      simp
    exact absurd hm (List.count_eq_zero.1 hf)
theorem any_bar_inv (hl : barB md l m = true) {Q : Exit → Act → World → Prop} (I : Array Bool → Act → World → Prop) (k : Nat)
    (hs : ∀ L a w i, L.size = m → i < m → I L a w → i ∈ Region.ready md (l.take m).toArray L → wpOp P l.toArray Q i (fun a' w' => I (L.setIfInBounds i true) a' w') a w)
    (hd : ∀ L a w, (∀ j, j < m → on L j) → I L a w → wpAny P md l.toArray Q k (pad (Array.replicate m true) k) a w) :
    ∀ (f : Nat) (L : Array Bool) (a : Act) (w : World), L.size = m → shutB md l L → L.toList.count false = f → I L a w → wpAny P md l.toArray Q (f + k) (pad L k) a w := by
  intro f
  induction f with
  | zero =>
    intro L a w hL hsh hf h
    have hall := full_zero hL hf
    have := full_of hL hall
    rw [Nat.zero_add]
    have h2 := hd L a w hall h
    rw [← this] at h2
    exact h2
  | succ f ih =>
    intro L a w hL hsh hf h
    have hno : ¬ ∀ i, i < m → L.getD i false = true := fun c => by
      have := full_of hL c
      rw [this] at hf
      simp [List.count_replicate] at hf
    rw [show f + 1 + k = (f + k) + 1 by omega]
    refine ⟨fun h0 => ?_, fun i hi => ?_⟩
    · exfalso
      apply hno
      apply bar_all hl hL
      apply List.eq_nil_iff_forall_not_mem.2
      intro i hi
      have hin : i < m := by
        obtain ⟨_, o, ho, _⟩ := mem_ready.1 hi
        have := (Array.getElem?_eq_some_iff.1 ho).1
        simp at this
        omega
      have := (bar_ready hl (k := k) hL hin).2 hi
      rw [h0] at this; cases this
    · rcases Nat.lt_or_ge i m with hin | hin
      · have hr := (bar_ready hl hL hin).1 hi
        refine wpOp_mono (fun a' w' hK => ?_) (hs L a w i hL hin h hr)
        rw [pad_set (by omega)]
        refine ih _ a' w' (by simp [hL]) (shut_set hsh hL hin hr) ?_ hK
        have := count_less (mem_ready.1 hr).1
        omega
      · exact absurd (bar_later hl hL hsh hin hi) hno
theorem region_bar_inv {id : Nat} {Q : Exit → Act → World → Prop} {a : Act} {w : World} (m : Nat) (hm : P.follows .mixedOrders = true) (hl : barB .any l m = true) (I : Array Bool → Act → World → Prop)
    (h0 : I (Array.replicate m false) a w.drew)
    (hs : ∀ L a w i, L.size = m → i < m → I L a w → i ∈ Region.ready .any (l.take m).toArray L → wpOp P l.toArray Q i (fun a' w' => I (L.setIfInBounds i true) a' w') a w)
    (hd : ∀ L a w, (∀ j, j < m → on L j) → I L a w → wpAny P .any l.toArray Q (l.length - m) (pad (Array.replicate m true) (l.length - m)) a w) : (Code.region id l.toArray true).wp P Q a w := by
  have h1 := (bar_spec hl).2.1
  refine wp_region_any hm ?_
  have e : l.toArray.size = m + (l.length - m) := by simp; omega
  rw [e]
  have e2 : Array.replicate (m + (l.length - m)) false = pad (Array.replicate m false) (l.length - m) := by unfold pad; simp
  rw [e2]
  exact any_bar_inv hl I (l.length - m) hs hd m _ a _ (by simp) (fun j o hj => by
    rw [rep_off] at hj; cases hj) (by simp) h0
end

section
variable {P : Program} {md : Region.Mode} {l : List Oper}
/-- the first p steps have been, up to m none else -/
def part (p m : Nat) : Array Bool := Array.replicate p true ++ Array.replicate (m - p) false
theorem part_size {p m : Nat} (h : p ≤ m) : (part p m).size = m := by simp [part]; omega
theorem part_lo {p m j : Nat} (h : j < p) : (part p m).getD j false = true := by simp [part, Array.getD_eq_getD_getElem?, Array.getElem?_append, h]
theorem part_hi {p m j : Nat} (h : p ≤ j) : (part p m).getD j false = false := by
  have h2 : ¬ j < p := by omega
  simp only [part, Array.getD_eq_getD_getElem?, Array.getElem?_append, Array.size_replicate, h2, if_false]
  rw [Array.getElem?_replicate]
  split <;> rfl
theorem part_off {p m j : Nat} (h : p ≤ j) : ¬ on (part p m) j := fun g => by unfold on at g; rw [part_hi h] at g; cases g
theorem shut_part {p m : Nat} (hl : barB md l m = true) (hp : p ≤ m) : shutB md l (part p m) := by
  intro j o hj ho e he hb
  rcases Nat.lt_or_ge j p with c | c
  · exact part_lo (Nat.lt_trans ((bar_spec hl).2.2.1 j (by omega) o ho e he hb) c)
  · rw [part_hi c] at hj; cases hj
theorem part_count {p m : Nat} (h : p ≤ m) : (part p m).toList.count false = m - p := by simp [part, List.count_replicate]
/-- the next part -/
theorem any_next {Q : Exit → Act → World → Prop} {a : Act} {w : World} {f : Nat} {L0 : Array Bool} (p m : Nat) (hl : barB md l m = true) (hp : p ≤ m) (hL : L0 = pad (part p m) (l.length - m)) (hf : f = (m - p) + (l.length - m))
    (I : Array Bool → Act → World → Prop) (h0 : I (part p m) a w)
    (hs : ∀ L a w i, L.size = m → i < m → I L a w → i ∈ Region.ready md (l.take m).toArray L → wpOp P l.toArray Q i (fun a' w' => I (L.setIfInBounds i true) a' w') a w)
    (hd : ∀ L a w, (∀ j, j < m → on L j) → I L a w → wpAny P md l.toArray Q (l.length - m) (pad (Array.replicate m true) (l.length - m)) a w) : wpAny P md l.toArray Q f L0 a w := by
  subst hL hf
  exact any_bar_inv hl I (l.length - m) hs hd (m - p) _ a w (part_size hp) (shut_part hl hp) (part_count hp) h0
/-- two steps are ready, none waits for the other one -/
theorem any_two {Q : Exit → Act → World → Prop} {ops : Array Oper} {f : Nat} {L : Array Bool} {a : Act} {w : World} (i j : Nat) (M : Array Bool) (h0 : Region.ready md ops L = [i, j]) (h1 : Region.ready md ops (L.setIfInBounds i true) = [j]) (h2 : Region.ready md ops (L.setIfInBounds j true) = [i])
    (e1 : (L.setIfInBounds i true).setIfInBounds j true = M) (e2 : (L.setIfInBounds j true).setIfInBounds i true = M)
    (h : ∀ K : Act → World → Prop, (∀ a' w', wpAny P md ops Q f M a' w' → K a' w') → wpOp P ops Q i (wpOp P ops Q j K) a w ∧ wpOp P ops Q j (wpOp P ops Q i K) a w) : wpAny P md ops Q (f + 1 + 1) L a w := by
  obtain ⟨hA, hB⟩ := h _ (fun _ _ h => h)
  have one : ∀ {L' : Array Bool} {x : Nat} {g : Nat} {a' : Act} {w' : World}, Region.ready md ops L' = [x] → wpOp P ops Q x (wpAny P md ops Q g (L'.setIfInBounds x true)) a' w' → wpAny P md ops Q (g + 1) L' a' w' := fun {L' x g a' w'} hr hx => ⟨fun c => (by rw [hr] at c; cases c), fun y hy => by rw [hr] at hy; rw [List.mem_singleton.1 hy]; exact hx⟩
  refine ⟨fun c => (by rw [h0] at c; cases c), fun y hy => ?_⟩
  rw [h0] at hy
  simp only [List.mem_cons, List.not_mem_nil, or_false] at hy
  rcases hy with rfl | rfl
  · refine wpOp_mono (fun a1 w1 g1 => one h1 ?_) hA
    refine wpOp_mono (fun a2 w2 g2 => ?_) g1
    rw [e1]; exact g2
  · refine wpOp_mono (fun a1 w1 g1 => one h2 ?_) hB
    refine wpOp_mono (fun a2 w2 g2 => ?_) g1
    rw [e2]; exact g2
end
end Go.Proofs.YtadgnafafdfioaaGreatDoor.Gr
