/-
  A REGION THAT DRAWS, WHOSE LAST STEP WAITS FOR ALL OTHERS, BY AN INVARIANT: whatever order the draw takes. Conditions: each theorem's own.
-/
import Derived.Test.YtjkobbpebnkimaaGreatDoorIv
namespace Go.Proofs.YtjkobbpebnkimaaGreatDoor.Tn
set_option maxRecDepth 100000
open Go.RowKit Nm
set_option linter.unusedVariables false

section
variable {P : Program} {md : Region.Mode} {l : List Oper} {n : Nat}
theorem wpAny_inv_last (hl : lastB md l n = true) {Q : Exit → Act → World → Prop} (I : Array Bool → Act → World → Prop)
    (hs : ∀ L a w i, L.size = n → I L a w → i ∈ Region.ready md (l.take n).toArray L → wpOp P l.toArray Q i (fun a' w' => I (L.setIfInBounds i true) a' w') a w)
    (hd : ∀ L a w, L.size = n → I L a w → (∀ j, j < n → on L j) → wpOp P l.toArray Q n (fun a w => Q .normal a w) a w)
    (f : Nat) (L : Array Bool) (a : Act) (w : World) (hL : L.size = n) (hI : I L a w) (hf : (L.push false).toList.count false ≤ f) : wpAny P md l.toArray Q f (L.push false) a w := by
  refine wpAny_inv (fun L' a w => (∃ L, L.size = n ∧ L' = L.push false ∧ I L a w) ∨ (Region.ready md l.toArray L' = [] ∧ Q .normal a w)) ?_ ?_ f _ a w hf (Or.inl ⟨L, hL, rfl, hI⟩)
  · rintro L' a w i (⟨L, hL, rfl, hI⟩ | ⟨h0, _⟩) hi
    · by_cases h0 : Region.ready md (l.take n).toArray L = []
      · have hin : i = n := by
          obtain ⟨_, o, ho, _⟩ := mem_ready.1 hi
          have := (Array.getElem?_eq_some_iff.1 ho).1
          have h1 := (last_spec hl).1
          simp at this
          rcases Nat.lt_or_ge i n with h | h
          · have := (ready_take hl hL h).1 hi; rw [h0] at this; cases this
          · omega
        subst hin
        have hnone : Region.ready md l.toArray ((L.push false).setIfInBounds i true) = [] := by
          apply List.eq_nil_iff_forall_not_mem.2
          intro j hj
          obtain ⟨hu, o, ho, _⟩ := mem_ready.1 hj
          have hjs := (Array.getElem?_eq_some_iff.1 ho).1
          have h1 := (last_spec hl).1
          simp at hjs
          by_cases hji : j = i
          · subst hji
            simp [hL] at hu
          · rw [getD_set_ne true (Ne.symm hji), push_lt true (by omega)] at hu
            have := all_listed hl hL h0 j (by omega)
            have hlt : j < L.size := by omega
            simp [hlt] at hu this
            rw [hu] at this; cases this
        exact wpOp_mono (fun a' w' h => Or.inr ⟨hnone, h⟩) (hd L a w hL hI (all_listed hl hL h0))
      · have hin : i < n := by
          obtain ⟨_, o, ho, _⟩ := mem_ready.1 hi
          have := (Array.getElem?_eq_some_iff.1 ho).1
          have h1 := (last_spec hl).1
          simp at this
          rcases Nat.lt_or_ge i n with h | h
          · exact h
          · have e : i = n := by omega
            subst e
            exact absurd (last_waits hl hL hi) h0
        exact wpOp_mono (fun a' w' h => Or.inl ⟨L.setIfInBounds i true, by simp [hL], push_set (by omega), h⟩) (hs L a w i hL hI ((ready_take hl hL hin).1 hi))
    · rw [h0] at hi; cases hi
  · rintro L' a w (⟨L, hL, rfl, hI⟩ | ⟨_, hq⟩) h0
    · have h1 : Region.ready md (l.take n).toArray L = [] := by
        apply List.eq_nil_iff_forall_not_mem.2
        intro i hi
        have hin : i < n := by
          obtain ⟨_, o, ho, _⟩ := mem_ready.1 hi
          have := (Array.getElem?_eq_some_iff.1 ho).1
          simp at this
          omega
        have := (ready_take hl hL hin).2 hi
        rw [h0] at this; cases this
      have := last_comes hl hL h1
      rw [h0] at this; cases this
    · exact hq
theorem region_inv_last {id : Nat} {Q : Exit → Act → World → Prop} {a : Act} {w : World} (n : Nat) (hm : P.follows .mixedOrders = true) (hl : lastB .any l n = true) (I : Array Bool → Act → World → Prop)
    (h0 : I (Array.replicate n false) a w.drew)
    (hs : ∀ L a w i, L.size = n → I L a w → i ∈ Region.ready .any (l.take n).toArray L → wpOp P l.toArray Q i (fun a' w' => I (L.setIfInBounds i true) a' w') a w)
    (hd : ∀ L a w, L.size = n → I L a w → (∀ j, j < n → on L j) → wpOp P l.toArray Q n (fun a w => Q .normal a w) a w) : (Code.region id l.toArray true).wp P Q a w := by
  refine wp_region_any hm ?_
  have h1 := (last_spec hl).1
  have e : l.toArray.size = n + 1 := by simp; omega
  rw [e, Array.replicate_succ]
  exact wpAny_inv_last hl I hs hd (n + 1) _ a _ (by simp) h0 (by simp)
end
theorem step_run {P : Program} {ops : Array Oper} {Q : Exit → Act → World → Prop} {i : Nat} {o : Oper} {K : Act → World → Prop} {a : Act} {w : World} (ho : ops[i]? = some o) (hg : o.guard = none) (h : o.wp P a w K Q) : wpOp P ops Q i K a w := by
  unfold wpOp
  rw [ho]
  have hw : Region.wanted o (yielded ops a.tmps) = true := by simp [Region.wanted, hg]
  simp only [hw, if_true]
  exact Or.inl h
theorem on_up {L : Array Bool} {i j : Nat} (h : on L j) : on (L.setIfInBounds i true) j := by
  by_cases e : j = i
  · subst e
    refine on_self ?_
    unfold on at h
    rcases Nat.lt_or_ge j L.size with g | g
    · exact g
    · simp [Nat.not_lt.2 g] at h
  · unfold on; rw [on_eq e]; exact h
theorem blk2_cell {w : World} {b : Nat} {a : Array Value} {t : TypeId} (h : w.heap[b]? = some (.cells a t (0, 0))) (i : Nat) : w.cell? ⟨b, i, none⟩ = a[i]? := by simp [World.cell?, h]
theorem blk2_froz {w : World} {b : Nat} {a : Array Value} {t : TypeId} (h : w.heap[b]? = some (.cells a t (0, 0))) (i : Nat) : w.frozen? ⟨b, i, none⟩ = false := by simp [World.frozen?, h]
theorem two_new (w : World) (a b : Array Value) (p q : TypeId) : (((w.alloc (.cells a p)).alloc (.cells b q)).drew).heap[w.heap.size]? = some (.cells a p (0, 0)) ∧ (((w.alloc (.cells a p)).alloc (.cells b q)).drew).heap[w.heap.size + 1]? = some (.cells b q (0, 0)) := by
  have n1 := heap_alloc_new (w.alloc (.cells a p)) (.cells b q)
  rw [show (w.alloc (.cells a p)).heap.size = w.heap.size + 1 by simp] at n1
  exact ⟨(heap_alloc_old _ _ (by simp)).trans (heap_alloc_new w _), n1⟩
theorem grown_refl (w : World) (o : Option Nat) : w.grownBy w o := ⟨rfl, rfl, rfl, Nat.le_refl _, fun _ _ _ => rfl⟩
theorem grown_trans {a b c : World} {o : Option Nat} (h : a.grownBy b o) (k : b.grownBy c o) : a.grownBy c o :=
  ⟨k.os.trans h.os, k.tape.trans h.tape, k.output.trans h.output, Nat.le_trans h.size k.size, fun i hi hne => by rw [k.block i (by have := h.size; omega) hne, h.block i hi hne]⟩
theorem grown_below {a b : World} {o : Option Nat} (h : Below a.heap.size a b) : a.grownBy b o := ⟨h.os, h.tape, h.output, h.size, fun i hi _ => h.block i hi⟩
theorem grown_alloc {a b : World} {o : Option Nat} (h : a.grownBy b o) (x : Obj) : a.grownBy (b.alloc x) o := grown_trans h (grown_below (bl_alloc (Below.refl _ _) x))
theorem grown_cell {a b : World} {o : Option Nat} (h : a.grownBy b o) {p : Addr} {x : Value} (hc : a.cell? p = some x) (hne : some p.block ≠ o) : b.cell? p = some x := by
  rw [World.cell?_of_block (w := a) (h.block p.block (row_lt hc) hne)]; exact hc
end Go.Proofs.YtjkobbpebnkimaaGreatDoor.Tn
