/-
  NODES LAID IN ANOTHER ROW: cells that are nodes' (Cp), of an elder slice, one more, one changed. Conditions: each theorem's own.
-/
import Derived.Test.YtadgnafafdfioaaDoorBA
import Derived.Laws.Rows
import Derived.Laws.OwnMore
namespace Go.Proofs.YtadgnafafdfioaaDoor.Gr
open Go.Proofs.YtadgnafafdfioaaDoor.Rd
set_option maxRecDepth 100000
open Go.RowKit
set_option linter.unusedVariables false
set_option linter.unusedSimpArgs false

/-- flat cells that are nodes -/
def Cp (w : World) (us : List Value) (l : List Nd) : Prop := us.length = l.length * 8 ∧ ∀ i, i < l.length → ∃ cs, Nc w cs (l.getD i zn) ∧ ∀ j, j < 8 → us[i * 8 + j]? = cs[j]?
theorem Nc.len {w : World} {cs : List Value} {nd : Nd} (h : Nc w cs nd) : cs.length = 8 := by
  obtain ⟨_, _, _, _, rfl, _⟩ := h
  rfl
theorem Nc.one {w : World} {cs : List Value} {nd : Nd} (h : Nc w cs nd) {u : Value} (hu : u ∈ cs) : u.oneCell' = true := by
  obtain ⟨_, _, _, _, rfl, _⟩ := h
  simp only [ncl, List.mem_cons, List.not_mem_nil, or_false] at hu
  rcases hu with rfl | rfl | rfl | rfl | rfl | rfl | rfl | rfl <;> rfl
theorem Cp.below {w v : World} {us : List Value} {l : List Nd} (h : Cp w us l) (hb : Below w.heap.size w v) : Cp v us l := ⟨h.1, fun i hi => by
  obtain ⟨cs, h1, h2⟩ := h.2 i hi
  exact ⟨cs, h1.below hb, h2⟩⟩
theorem Cp.nil (w : World) : Cp w [] [] := ⟨rfl, fun i hi => absurd hi (Nat.not_lt_zero _)⟩
theorem Cp.one {w : World} {us : List Value} {l : List Nd} (h : Cp w us l) : ∀ u ∈ us, u.oneCell' = true := by
  intro u hu
  obtain ⟨k, hk, rfl⟩ := List.getElem_of_mem hu
  have hk' := hk
  rw [h.1] at hk'
  obtain ⟨cs, h1, h2⟩ := h.2 (k / 8) (by omega)
  have := h2 (k % 8) (by omega)
  rw [show k / 8 * 8 + k % 8 = k by omega, List.getElem?_eq_getElem hk, List.getElem?_eq_getElem (by rw [h1.len]; omega)] at this
  rw [Option.some.inj this]
  exact h1.one (List.getElem_mem _)
theorem Cp.snoc {w : World} {us cs : List Value} {l : List Nd} {nd : Nd} (h : Cp w us l) (hc : Nc w cs nd) : Cp w (us ++ cs) (l ++ [nd]) := by
  have hl := h.1
  refine ⟨by rw [List.length_append, List.length_append, hl, hc.len]; simp; omega, fun i hi => ?_⟩
  rw [List.length_append, List.length_singleton] at hi
  by_cases hlt : i < l.length
  · obtain ⟨ds, h1, h2⟩ := h.2 i hlt
    refine ⟨ds, by simp only [List.getD_eq_getElem?_getD] at h1 ⊢; rw [List.getElem?_append_left hlt]; exact h1, fun j hj => ?_⟩
    rw [List.getElem?_append_left (by omega)]
    exact h2 j hj
  · have e : i = l.length := by omega
    subst e
    refine ⟨cs, by simpa [List.getD] using hc, fun j hj => ?_⟩
    rw [List.getElem?_append_right (by omega), hl]
    congr 1
    omega
theorem Cp.app {w : World} {us vs : List Value} {l k : List Nd} (h : Cp w us l) (hk : Cp w vs k) : Cp w (us ++ vs) (l ++ k) := by
  refine ⟨by rw [List.length_append, List.length_append, h.1, hk.1, Nat.add_mul], fun i hi => ?_⟩
  rw [List.length_append] at hi
  by_cases hlt : i < l.length
  · obtain ⟨ds, h1, h2⟩ := h.2 i hlt
    refine ⟨ds, by simp only [List.getD_eq_getElem?_getD] at h1 ⊢; rw [List.getElem?_append_left hlt]; exact h1, fun j hj => ?_⟩
    rw [List.getElem?_append_left (by have := h.1; omega)]
    exact h2 j hj
  · obtain ⟨ds, h1, h2⟩ := hk.2 (i - l.length) (by omega)
    refine ⟨ds, by simp only [List.getD_eq_getElem?_getD] at h1 ⊢; rw [List.getElem?_append_right (by omega)]; exact h1, fun j hj => ?_⟩
    have hl := h.1
    rw [List.getElem?_append_right (by omega), ← h2 j hj]
    congr 1
    omega
/-- of a row in memory -/
theorem Cp.ofNl {w : World} {b off : Nat} {l : List Nd} (h : Nl w (some ⟨b, off, none⟩) l) : ∃ us, Cp w us l ∧ ∀ j u, us[j]? = some u → w.cell? ((⟨b, off, none⟩ : Addr).add j) = some u := by
  refine ⟨(List.range (l.length * 8)).map fun j => (w.cell? ⟨b, off + j, none⟩).getD (.bool false), ⟨by simp, fun i hi => ?_⟩, fun j u hu => ?_⟩
  · obtain ⟨b', off', cs, e, h1, h2⟩ := h i hi
    simp only [Option.some.injEq, Addr.mk.injEq, and_true] at e
    obtain ⟨rfl, rfl⟩ := e
    refine ⟨cs, h1, fun j hj => ?_⟩
    have hc := h2 j hj
    rw [List.getElem?_eq_getElem (show j < cs.length by rw [h1.len]; exact hj)] at hc ⊢
    rw [List.getElem?_map, List.getElem?_range (by omega)]
    simp only [Option.map_some, Option.some.injEq]
    rw [← Nat.add_assoc, hc]
    rfl
  · have hj : j < l.length * 8 := by
      have := (List.getElem?_eq_some_iff.1 hu).1
      simpa using this
    rw [List.getElem?_map, List.getElem?_range hj] at hu
    simp only [Option.map_some, Option.some.injEq] at hu
    obtain ⟨b', off', cs, e, h1, h2⟩ := h (j / 8) (by omega)
    simp only [Option.some.injEq, Addr.mk.injEq, and_true] at e
    obtain ⟨rfl, rfl⟩ := e
    have hc := h2 (j % 8) (by omega)
    rw [List.getElem?_eq_getElem (show j % 8 < cs.length by rw [h1.len]; omega), Nat.add_assoc, show j / 8 * 8 + j % 8 = j by omega] at hc
    rw [hc] at hu
    rw [row_add, hc]
    simpa using hu
/-- a row of one's own, as it is read -/
theorem Cp.nl {w : World} {B n c : Nat} {ao : Option Addr} {us : List Value} {l : List Nd} (h : Cp w us l) (ho : w.ownsRow B 30 8 (.slice ao n c) l.length us) : Nl w ao l := by
  intro i hi
  obtain ⟨cs, h1, h2⟩ := h.2 i hi
  rcases ho.2 with ⟨e1, e2⟩ | ⟨g, cap, cur, e1, e2, e3, e4, e5, _⟩
  · omega
  · have e : ao = some ⟨g, 0, none⟩ := by simp only [Value.slice.injEq] at e1; exact e1.1
    refine ⟨g, 0, cs, e, h1, fun j hj => ?_⟩
    have hc := ho
    rw [e1] at hc
    rw [Nat.zero_add, hc.cellAt (i * 8 + j) (by omega)]
    exact h2 j hj
/-- one node's name another -/
theorem Nc.named {w : World} {cs : List Value} {nd : Nd} (h : Nc w cs nd) (x : ByteArray) : Nc w (cs.set 3 (.string x)) { nd with name := x } := by
  obtain ⟨sa, sc, da, dc, rfl, h1, h2⟩ := h
  exact ⟨sa, sc, da, dc, rfl, h1, h2⟩
theorem Cp.named {w : World} {us : List Value} {l : List Nd} (h : Cp w us l) {at_ : Nat} (ha : at_ < l.length) (x : ByteArray) :
    Cp w (us.set (at_ * 8 + 3) (.string x)) (l.set at_ { l.getD at_ zn with name := x }) := by
  refine ⟨by simpa using h.1, fun i hi => ?_⟩
  rw [List.length_set] at hi
  obtain ⟨cs, h1, h2⟩ := h.2 i hi
  by_cases he : i = at_
  · subst he
    refine ⟨cs.set 3 (.string x), ?_, fun j hj => ?_⟩
    · have : (l.set i { l.getD i zn with name := x }).getD i zn = { l.getD i zn with name := x } := by
        rw [List.getD_eq_getElem?_getD, List.getElem?_set_self hi]; rfl
      rw [this]
      exact h1.named x
    · by_cases h3 : j = 3
      · subst h3
        rw [List.getElem?_set_self (by have := h.1; omega), List.getElem?_set_self (by rw [h1.len]; omega)]
      · rw [List.getElem?_set_ne (by omega), List.getElem?_set_ne (by omega)]
        exact h2 j hj
  · refine ⟨cs, ?_, fun j hj => ?_⟩
    · have : (l.set at_ { l.getD at_ zn with name := x }).getD i zn = l.getD i zn := by
        rw [List.getD_eq_getElem?_getD, List.getElem?_set_ne (by omega), ← List.getD_eq_getElem?_getD]
      rw [this]
      exact h1
    · rw [List.getElem?_set_ne (by omega)]
      exact h2 j hj
/-- a store into a row of one's own -/
theorem own_at {w : World} {B e s n c g k : Nat} {xs : List Value} (h : w.ownsRow B e s (.slice (some ⟨g, 0, none⟩) n c) n xs) (x : Value) (hk : k < n * s) :
    (w.setCell ⟨g, k, none⟩ x).ownsRow B e s (.slice (some ⟨g, 0, none⟩) n c) n (xs.set k x) := by
  refine ⟨by rw [List.length_set]; exact h.1, ?_⟩
  rcases h.2 with ⟨e1, _⟩ | ⟨g', cap, cur, e1, e2, e3, e4, e5, e6, e7⟩
  · simp at e1
  · simp only [Value.slice.injEq, Option.some.injEq, Addr.mk.injEq, and_true, true_and] at e1
    obtain ⟨rfl, rfl⟩ := e1
    refine .inr ⟨g, c, cur.setIfInBounds k x, rfl, e2, heap_setCell_same _ _ _ _ _ _ e3, e4, e5, by simpa using e6, ?_⟩
    rw [← e7, Array.toList_setIfInBounds, List.take_set]
/-- whether a text is empty -/
theorem emp_dec (x : ByteArray) : x.toList.isEmpty = decide (x.size = 0) := by
  have h : x.toList = x.data.toList := ByteArray.toList_eq x
  rw [h]
  cases x with
  | mk d => 
    show d.toList.isEmpty = decide (d.size = 0)
    cases d with
    | mk l => cases l <;> simp
end Go.Proofs.YtadgnafafdfioaaDoor.Gr
