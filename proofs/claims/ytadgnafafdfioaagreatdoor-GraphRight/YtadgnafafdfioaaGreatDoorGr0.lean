/-
  RIGHT GRAPHS, NODE BY NODE: the names that have been, as pairs. Conditions: each theorem's own.
-/
import Derived.Test.YtadgnafafdfioaaGreatDoorHq
import Derived.Test.YtadgnafafdfioaaGreatDoorMz
namespace Go.Proofs.YtadgnafafdfioaaGreatDoor.Gr
open Go.Proofs.YtadgnafafdfioaaGreatDoor.Rd
set_option maxRecDepth 100000
open Go.RowKit
set_option linter.unusedVariables false
set_option linter.unusedSimpArgs false

/-- the names among the first k nodes, and where they stand -/
def nps (l : List Nd) : Nat → List (ByteArray × Int)
  | 0 => []
  | k + 1 => nps l k ++ (if nmd (l.getD k zn).op then [((l.getD k zn).name, (k : Int))] else [])
theorem nps_mem {l : List Nd} {k : Nat} {p : ByteArray × Int} : p ∈ nps l k ↔ ∃ j, j < k ∧ nmd (l.getD j zn).op = true ∧ p = ((l.getD j zn).name, (j : Int)) := by
  induction k with
  | zero => simp [nps]
  | succ k ih =>
    unfold nps
    rw [List.mem_append, ih]
    constructor
    · rintro (⟨j, h1, h2, h3⟩ | h)
      · exact ⟨j, by omega, h2, h3⟩
      · split at h
        · rename_i hn
          rw [List.mem_singleton] at h
          exact ⟨k, by omega, hn, h⟩
        · cases h
    · rintro ⟨j, h1, h2, h3⟩
      by_cases e : j = k
      · subst e
        right
        rw [if_pos h2, List.mem_singleton]; exact h3
      · exact .inl ⟨j, by omega, h2, h3⟩
theorem size_em {x : ByteArray} (h : x.size = 0) : x = em := by
  have := Array.eq_empty_of_size_eq_zero (xs := x.data) h
  cases x; simp only at this; rw [this]
theorem nok_name {op name : ByteArray} (h : nok op name = true) : (nmd op = true → ¬ name.size = 0) ∧ (nmd op = false → name.size = 0) := by
  unfold nok at h; unfold nmd
  constructor
  · intro c e
    rw [if_pos c] at h
    rw [size_em e, nmb_em] at h; cases h
  · intro c
    rw [if_neg (by rw [c]; decide)] at h
    simpa using h
theorem shp_nok_of {l : List Nd} {n : Nd} {s : List Int} (h : shp l n = some s) : nok n.op n.name = true := by
  obtain ⟨m, _, _, h3, _⟩ := shp_some h
  exact h3
theorem nri_plain {l : List Nd} {k : Nat} (hs : shp (l.take k) (l.getD k zn) = some (l.getD k zn).shape) (hn : nmd (l.getD k zn).op = false) : nri l k = true := by
  unfold nri
  rw [hs, (nok_name (shp_nok_of hs)).2 hn]
  simp
theorem nri_named {l : List Nd} {k : Nat} (hj : ∀ j, j < k → nri l j = true) (hs : shp (l.take k) (l.getD k zn) = some (l.getD k zn).shape) (hn : nmd (l.getD k zn).op = true) :
    nri l k = (fp (nps l k) (l.getD k zn).name).isNone := by
  have h0 := (nok_name (shp_nok_of hs)).1 hn
  unfold nri
  rw [hs, decide_eq_false h0, decide_eq_true rfl, Bool.true_and, Bool.false_or, Bool.eq_iff_iff, List.all_eq_true, Option.isNone_iff_eq_none, fp_none]
  constructor
  · intro h p hp
    obtain ⟨j, h1, h2, rfl⟩ := nps_mem.1 hp
    have := h j (List.mem_range.2 h1)
    simpa using this
  · intro h j hjk
    have hjk := List.mem_range.1 hjk
    simp only [decide_eq_true_eq, ne_eq]
    cases hm : nmd (l.getD j zn).op with
    | true => exact h _ (nps_mem.2 ⟨j, hjk, hm, rfl⟩)
    | false =>
      intro e
      have := (nok_name (shp_nok_of (nri_shp (hj j hjk)))).2 hm
      rw [e] at this
      exact h0 this
theorem nri_shape_no {l : List Nd} {k : Nat} (h : ¬ shp (l.take k) (l.getD k zn) = some (l.getD k zn).shape) : nri l k = false := by
  unfold nri
  rw [decide_eq_false h, Bool.false_and]
theorem nrs_all {l : List Nd} (h : ∀ j, j < l.length → nri l j = true) : nrs l = true := by
  unfold nrs
  rw [List.all_eq_true]
  exact fun j hj => h j (List.mem_range.1 hj)
theorem take_shapes {l : List Nd} {k : Nat} (hk : k ≤ l.length) (h : ∀ j, j < k → nri l j = true) : ∀ i, i < (l.take k).length → Sp.Rgt ((l.take k).getD i zn).shape := by
  intro i hi
  rw [List.length_take] at hi
  rw [getD_take_nd (by omega)]
  exact shp_rgt (nri_shp (h i (by omega)))
theorem Nl.take {w : World} {ao : Option Addr} {l : List Nd} (h : Nl w ao l) (k : Nat) : Nl w ao (l.take k) := by
  intro i hi
  rw [List.length_take] at hi
  rw [getD_take_nd (by omega)]
  exact h i (by omega)
theorem grt_long {l : List Nd} {loss : Int} (h : 200 < l.length) : grt l loss = false := by
  unfold grt
  rw [decide_eq_false (p := l.length ≤ 200) (by omega)]; simp
theorem grt_nri {l : List Nd} {loss : Int} {k : Nat} (hk : k < l.length) (h : nri l k = false) : grt l loss = false := grt_no (nrs_no hk h)
theorem grt_end {l : List Nd} {loss : Int} (h2 : l.length ≤ 200) (h : nrs l = true) : grt l loss = (inl l.length loss && decide ((sha l loss).length = 0)) := by
  unfold grt
  rw [h, decide_eq_true h2]
  cases hi : inl l.length loss with
  | false => simp
  | true =>
    have := inl_iff.1 hi
    rw [decide_eq_true (by omega)]; simp
end Go.Proofs.YtadgnafafdfioaaGreatDoor.Gr
