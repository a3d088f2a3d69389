/-
  GRAPHS AS LISTS OF NODES: what the laws of layer 10 ask of them. Nothing of the program's text is named here. No conditions.
-/
import Derived.Test.YtadgnafafdfioaaGreatDoorGp
namespace Go.Proofs.YtadgnafafdfioaaGreatDoor.Gr
open Go.Proofs.YtadgnafafdfioaaGreatDoor.Rd
set_option linter.unusedVariables false
set_option linter.unusedSimpArgs false

/-! ## the laws -/
theorem grt_iff {l : List Nd} {loss : Int} : grt l loss = true ↔ 1 ≤ l.length ∧ l.length ≤ 200 ∧ inl l.length loss = true ∧ (sha l loss).length = 0 ∧ nrs l = true := by
  simp only [grt, Bool.and_eq_true, decide_eq_true_eq]
  constructor
  · rintro ⟨⟨⟨⟨a, b⟩, c⟩, d⟩, e⟩; exact ⟨a, b, c, d, e⟩
  · rintro ⟨a, b, c, d, e⟩; exact ⟨⟨⟨⟨a, b⟩, c⟩, d⟩, e⟩
theorem grt_other {l : List Nd} {loss other : Int} (h : grt l loss = true) : grt l other = (inl l.length other && decide ((sha l other).length = 0)) := by
  obtain ⟨a, b, _, _, e⟩ := grt_iff.1 h
  unfold grt
  rw [e]
  simp [a, b]
theorem inl_iff {k : Nat} {A : Int} : inl k A = true ↔ 0 ≤ A ∧ A < (k : Int) := by simp [inl]
theorem getD_take_nd {l : List Nd} {i k : Nat} (h : i < k) : (l.take k).getD i zn = l.getD i zn := by
  rw [List.getD_eq_getElem?_getD, List.getD_eq_getElem?_getD, List.getElem?_take, if_pos h]
theorem nrs_take {l : List Nd} {k : Nat} (h : nrs l = true) (hk : k ≤ l.length) : nrs (l.take k) = true := by
  unfold nrs
  rw [List.all_eq_true]
  intro i hi
  have hi := List.mem_range.1 hi
  rw [List.length_take] at hi
  rw [nri_take (by omega) hk]
  exact nri_at h (by omega)
theorem grt_short {l : List Nd} {loss : Int} (h : grt l loss = true) : grt (l.take (loss.toNat + 1)) loss = true := by
  obtain ⟨a, b, c, d, e⟩ := grt_iff.1 h
  have hc := inl_iff.1 c
  rw [grt_iff]
  refine ⟨by rw [List.length_take]; omega, by rw [List.length_take]; omega, ?_, ?_, nrs_take e (by omega)⟩
  · rw [inl_iff, List.length_take]; omega
  · unfold sha at d ⊢
    rw [getD_take_nd (by omega)]
    exact d
theorem shp_at {l : List Nd} (h : nrs l = true) {i : Nat} (hi : i < l.length) : shp (l.take i) (l.getD i zn) = some (l.getD i zn).shape ∧ shp l (l.getD i zn) = some (l.getD i zn).shape := by
  have h1 := nri_shp (nri_at h hi)
  refine ⟨h1, ?_⟩
  have h2 := shp_more (r := l.drop i) h1
  rwa [List.take_append_drop] at h2
theorem rgt_at {l : List Nd} (h : nrs l = true) {i : Nat} (hi : i < l.length) : Sp.Rgt (l.getD i zn).shape := shp_rgt (shp_at h hi).1
/-- a name changed: the node is none any more -/
theorem nmb_em : nmb em = false := by decide
theorem getD_set_nd {l : List Nd} {i k : Nat} {x : Nd} (hi : i < l.length) : (l.set i x).getD i zn = x := by
  simp [List.getD, hi]
theorem nok_other {op name name' : ByteArray} (h : nok op name = true) (h1 : name.size = 0 → ¬ name'.size = 0) (h2 : ¬ name.size = 0 → name' = em) : nok op name' = false := by
  unfold nok at h ⊢
  by_cases c : (isw op lParam || isw op lInput) = true
  · rw [if_pos c] at h ⊢
    have hn : ¬ name.size = 0 := by
      intro e
      have : name = em := by
        have := Array.eq_empty_of_size_eq_zero (xs := name.data) e
        cases name; simp only at this; rw [this]
      rw [this, nmb_em] at h; cases h
    rw [h2 hn]; exact nmb_em
  · rw [if_neg c] at h ⊢
    simp only [decide_eq_true_eq] at h
    simp [h1 h]
theorem shp_nok {l : List Nd} {n : Nd} (h : nok n.op n.name = false) : shp l n = none := by
  unfold shp
  split
  · rw [if_neg]
    rintro ⟨_, c, _⟩
    rw [h] at c; cases c
  · rfl
theorem nri_none {l : List Nd} {i : Nat} (h : shp (l.take i) (l.getD i zn) = none) : nri l i = false := by
  unfold nri
  rw [h]; simp
theorem nrs_no {l : List Nd} {i : Nat} (hi : i < l.length) (h : nri l i = false) : nrs l = false := by
  cases c : nrs l with
  | false => rfl
  | true => rw [nri_at c hi] at h; cases h
theorem grt_no {l : List Nd} {loss : Int} (h : nrs l = false) : grt l loss = false := by
  unfold grt; rw [h]; simp
/-- of what has no name, with one; of what has one, with none -/
theorem grt_renamed {l : List Nd} {loss : Int} (h : nrs l = true) {i : Nat} (hi : i < l.length) {name' : ByteArray}
    (h1 : (l.getD i zn).name.size = 0 → ¬ name'.size = 0) (h2 : ¬ (l.getD i zn).name.size = 0 → name' = em) : grt (l.set i { l.getD i zn with name := name' }) loss = false := by
  refine grt_no (nrs_no (i := i) (by simpa using hi) (nri_none (shp_nok ?_)))
  rw [getD_set_nd (k := i) hi]
  obtain ⟨m, _, _, hn, _⟩ := shp_some (shp_at h hi).1
  exact nok_other hn h1 h2
/-- one of its names twice -/
theorem grt_twice {l : List Nd} {loss : Int} (h : nrs l = true) {i : Nat} (hi : i < l.length) {x : Nd} (ho : x.op = str lParam) (hx : x.name = (l.getD i zn).name) : grt (l ++ [x]) loss = false := by
  refine grt_no (nrs_no (i := l.length) (by simp) ?_)
  rw [nri_snoc]
  by_cases c : x.name.size = 0
  · have : x.name = em := by
      have := Array.eq_empty_of_size_eq_zero (xs := x.name.data) c
      cases hxn : x.name with
      | mk d => rw [hxn] at this; simp only at this; rw [this]
    have hn : nok x.op x.name = false := by
      rw [ho, this]
      unfold nok
      rw [show (isw (str lParam) lParam || isw (str lParam) lInput) = true from by decide]
      exact nmb_em
    rw [shp_nok hn]; simp
  · have : (l.all fun y => decide (y.name ≠ x.name)) = false := by
      rw [Bool.eq_false_iff]
      intro ha
      rw [List.all_eq_true] at ha
      have := ha (l.getD i zn) (by rw [List.getD_eq_getElem?_getD, List.getElem?_eq_getElem hi]; exact List.getElem_mem hi)
      simp only [decide_eq_true_eq] at this
      exact this hx.symm
    rw [this]
    simp [c]
/-- a node more, of the shape that is inferred of it -/
theorem own_shape {n : Nd} {a b s : List Int} (h : own n a b = some s) (ho : (isw n.op lParam || isw n.op lInput) = false) : own { n with shape := s } a b = some s := by
  unfold own at h ⊢
  simp only [ho] at h ⊢
  simp only [Bool.false_eq_true, if_false] at h ⊢
  by_cases c1 : isw n.op lConst = true
  · rw [if_pos c1] at h ⊢
    have e : n.shape = s := by
      split at h
      · cases h; rfl
      · cases h
    subst e
    exact h
  rw [if_neg c1] at h ⊢
  by_cases c2 : isw n.op lMatmul = true
  · rw [if_pos c2] at h ⊢; exact h
  rw [if_neg c2] at h ⊢
  by_cases c3 : isw n.op lTranspose = true
  · rw [if_pos c3] at h ⊢; exact h
  rw [if_neg c3] at h ⊢
  by_cases c4 : isw n.op lSum = true
  · rw [if_pos c4] at h ⊢; exact h
  rw [if_neg c4] at h ⊢
  by_cases c5 : isw n.op lScale = true
  · rw [if_pos c5] at h ⊢; exact h
  rw [if_neg c5] at h ⊢
  by_cases c6 : isw n.op lPower = true
  · rw [if_pos c6] at h ⊢; exact h
  rw [if_neg c6] at h ⊢
  by_cases c7 : isw n.op lReshape = true
  · rw [if_pos c7] at h ⊢
    have e : n.shape = s := by
      split at h
      · cases h; rfl
      · cases h
    subst e
    exact h
  rw [if_neg c7] at h ⊢
  by_cases c8 : isw n.op lSpread = true
  · rw [if_pos c8] at h ⊢
    have e : n.shape = s := by
      split at h
      · exact (rgo_some h).1.symm
      · cases h
    subst e
    exact h
  rw [if_neg c8] at h ⊢
  exact h
theorem shp_shape {l : List Nd} {n : Nd} {s : List Int} (h : shp l n = some s) (hn : n.name.size = 0) : shp l { n with shape := s } = some s := by
  obtain ⟨m, h1, h2, h3, h4, h5⟩ := shp_some h
  have ho : (isw n.op lParam || isw n.op lInput) = false := by
    rw [Bool.eq_false_iff]
    intro c
    unfold nok at h3
    rw [if_pos c] at h3
    have : n.name = em := by
      have := Array.eq_empty_of_size_eq_zero (xs := n.name.data) hn
      cases hxn : n.name with
      | mk d => rw [hxn] at this; simp only at this; rw [this]
    rw [this, nmb_em] at h3; cases h3
  unfold shp
  simp only [h1]
  rw [if_pos ⟨h2, h3, h4⟩]
  exact own_shape h5 ho
theorem grt_more {l : List Nd} {loss : Int} {n : Nd} {s : List Int} (h : grt l loss = true) (hl : l.length < 200) (hs : shp l n = some s) (hn : n.name.size = 0) : grt (l ++ [{ n with shape := s }]) loss = true := by
  obtain ⟨a, b, c, d, e⟩ := grt_iff.1 h
  rw [grt_iff]
  refine ⟨by simp, by simp; omega, ?_, ?_, ?_⟩
  · exact inl_more c (by simp)
  · rw [sha_more c]; exact d
  · rw [nrs_snoc, e, nri_snoc]
    simp only [Bool.true_and, Bool.and_eq_true, Bool.or_eq_true, decide_eq_true_eq]
    exact ⟨shp_shape hs hn, .inl hn⟩
theorem nats_65 (s : List Int) : ¬ Sp.Rgt (s ++ [65]) := by
  rintro ⟨_, h1, h2⟩
  rw [Sp.nats_app, Sp.shz_app] at h2
  have h3 : 1 ≤ Sp.shz (Sp.nats s) := Sp.shz_pos (Sp.pos_nats fun z hz => h1 z (by simp [hz]))
  have h4 : Sp.shz (Sp.nats [65]) = 65 := rfl
  rw [h4] at h2
  omega
theorem grt_wrong {l : List Nd} {loss : Int} {n : Nd} {s : List Int} : grt (l ++ [{ n with shape := s ++ [65] }]) loss = false := by
  refine grt_no (nrs_no (i := l.length) (by simp) ?_)
  rw [nri_snoc]
  have : ¬ shp l { n with shape := s ++ [65] } = some (s ++ [65]) := fun h => nats_65 s (shp_rgt h)
  simp [this]
end Go.Proofs.YtadgnafafdfioaaGreatDoor.Gr
