/-
  A ROUND THAT ADDS INTO A STRUCT OF ONE'S OWN AND APPENDS TO TWO SLICES: what stands between the rounds, and what each step leaves of it. Conditions: none.
-/
import Derived.Test.YtfblgaffkflenaaGreatDoorWMd
import Derived.Maps.AppendAt
import Derived.Deep.AppendLies
namespace Go.Proofs.YtfblgaffkflenaaGreatDoor.Tn
set_option maxRecDepth 100000
open Go.RowKit Nm
set_option linter.unusedVariables false

/-- between two rounds: u is the world ahead of the box; the box holds s; two rows of one's own behind it hold l1, l2, in blocks apart -/
structure Lp (u wr : World) (s : Rat) (l1 l2 : List Rat) (v1 v2 : Value) : Prop where
  bl : Below u.heap.size u wr
  c0 : wr.cell? ⟨u.heap.size, 0, none⟩ = some (.string (W s.num))
  c1 : wr.cell? ⟨u.heap.size, 1, none⟩ = some (.string (S s.den))
  f0 : wr.frozen? ⟨u.heap.size, 0, none⟩ = false
  f1 : wr.frozen? ⟨u.heap.size, 1, none⟩ = false
  sz : u.heap.size < wr.heap.size
  o1 : wr.ownsRow (u.heap.size + 1) 41 2 v1 l1.length (frs l1)
  o2 : wr.ownsRow (u.heap.size + 1) 41 2 v2 l2.length (frs l2)
  ap : ∀ b, v1.ownBlock = some b → v2.ownBlock = some b → False

/-- a step whose guard leaves it out -/
theorem step_skip {P : Program} {ops : Array Oper} {Q : Exit → Act → World → Prop} {i : Nat} {o : Oper} {K : Act → World → Prop} {a : Act} {w : World} (ho : ops[i]? = some o) (hw : Region.wanted o (yielded ops a.tmps) = false) (h : K (a.put o.dst undef) w) : wpOp P ops Q i K a w := by
  unfold wpOp
  rw [ho]
  simp only [hw]
  exact h

section
variable {u wr w' : World} {s : Rat} {l1 l2 : List Rat} {v1 v2 : Value}
theorem Lp.call (h : Lp u wr s l1 l2 v1 v2) (hb : Below wr.heap.size wr w') : Lp u w' s l1 l2 v1 v2 :=
  ⟨h.bl.trans (hb.mono (by have := h.sz; omega)), cell_below hb h.c0, cell_below hb h.c1, frozen_below hb h.sz h.f0, frozen_below hb h.sz h.f1,
    Nat.lt_of_lt_of_le h.sz hb.size, owns_below h.o1 hb, owns_below h.o2 hb, h.ap⟩
theorem Lp.first (u : World) : Lp u (u.alloc (.cells #[.string (W (0 : Rat).num), .string (S (0 : Rat).den)] 41)) 0 [] [] (.slice none 0 0) (.slice none 0 0) :=
  ⟨bl_alloc (Below.refl _ _) _, by simp, by simp, by simp, by simp, by simp, World.ownsRow_nil _ _ _ _, World.ownsRow_nil _ _ _ _, fun b hb => by simp [Value.ownBlock] at hb⟩
theorem Lp.start (u : World) (qs : List Rat) (F G : List Rat → List Rat) (hF : F [] = []) (hG : G [] = []) : Lp u (u.alloc (.cells #[.string ⟨#[48]⟩, .string ⟨#[49]⟩] 41)) (tot (qs.take 0)) (F (qs.take 0)) (G (qs.take 0)) (.slice none 0 0) (.slice none 0 0) := by
  have h := Lp.first u
  rw [show W (0 : Rat).num = ⟨#[48]⟩ from W0, show S (0 : Rat).den = ⟨#[49]⟩ from S1] at h
  rw [List.take_zero, hF, hG]
  exact h
theorem owns_set {w : World} {base : Nat} {e : TypeId} {size : Nat} {v : Value} {n : Nat} {xs : List Value} (h : w.ownsRow base e size v n xs) {p : Addr} (hp : p.block < base) (x : Value) : (w.setCell p x).ownsRow base e size v n xs := by
  refine ⟨h.1, ?_⟩
  rcases h.2 with h1 | ⟨g, c, cur, h1, h2, h3, h4⟩
  · exact Or.inl h1
  · exact Or.inr ⟨g, c, cur, h1, h2, by rw [Below.heap_setCell _ _ _ _ (by omega)]; exact h3, h4⟩
theorem Lp.box (h : Lp u wr s l1 l2 v1 v2) (t : Rat) (h2 : w' = (wr.setCell ⟨u.heap.size, 0, none⟩ (.string (W t.num))).setCell ⟨u.heap.size, 1, none⟩ (.string (S t.den))) : Lp u w' t l1 l2 v1 v2 := by
  subst h2
  have hs := h.sz
  refine ⟨(h.bl.setCell (Nat.le_refl _) _).setCell (Nat.le_refl _) _, ?_, ?_, ?_, ?_, ?_, owns_set (owns_set h.o1 (Nat.lt_succ_self _) _) (Nat.lt_succ_self _) _, owns_set (owns_set h.o2 (Nat.lt_succ_self _) _) (Nat.lt_succ_self _) _, h.ap⟩
  · rw [World.cell?_setCell_other _ _ _ _ (by simp)]; exact World.cell?_setCell_same _ _ _ h.c0
  · exact World.cell?_setCell_same _ _ _ (by rw [World.cell?_setCell_other _ _ _ _ (by simp)]; exact h.c1)
  · rw [World.frozen?_setCell, World.frozen?_setCell]; exact h.f0
  · rw [World.frozen?_setCell, World.frozen?_setCell]; exact h.f1
  · simp; exact hs
theorem Lp.app1 (h : Lp u wr s l1 l2 v1 v2) {q : Rat} {v' : Value} (ho : w'.ownsRow (u.heap.size + 1) 41 2 v' (l1.length + 1) (frs l1 ++ [.string (W q.num), .string (S q.den)])) (hg : wr.grownBy w' v1.ownBlock)
    (hat : v'.ownBlock = v1.ownBlock ∨ v'.ownBlock = some wr.heap.size) : Lp u w' s (l1 ++ [q]) l2 v' v2 := by
  have hs := h.sz
  have lt1 := h.o1.lt
  have lt2 := h.o2.lt
  have far : some u.heap.size ≠ v1.ownBlock := fun e => by have := (lt1 _ e.symm).1; omega
  refine ⟨h.bl.grown hg (by omega) (fun k hk => by have := (lt1 k hk).1; omega), hg.cell h.c0 far, hg.cell h.c1 far, ?_, ?_, Nat.lt_of_lt_of_le hs hg.size, ?_, h.o2.kept hg ?_, ?_⟩
  · rw [hg.frozen_far _ hs far]; exact h.f0
  · rw [hg.frozen_far _ hs far]; exact h.f1
  · rw [List.length_append, frs_app]; exact ho
  · cases e : v2.ownBlock with
    | none => exact Or.inl rfl
    | some b => exact Or.inr fun c => h.ap b c.symm e
  · intro b hb hb2
    rcases hat with c | c
    · exact h.ap b (by rw [← c]; exact hb) hb2
    · rw [c] at hb
      have := (lt2 b hb2).2
      cases hb
      omega
theorem Lp.app2 (h : Lp u wr s l1 l2 v1 v2) {q : Rat} {v' : Value} (ho : w'.ownsRow (u.heap.size + 1) 41 2 v' (l2.length + 1) (frs l2 ++ [.string (W q.num), .string (S q.den)])) (hg : wr.grownBy w' v2.ownBlock)
    (hat : v'.ownBlock = v2.ownBlock ∨ v'.ownBlock = some wr.heap.size) : Lp u w' s l1 (l2 ++ [q]) v1 v' := by
  have hs := h.sz
  have lt1 := h.o1.lt
  have lt2 := h.o2.lt
  have far : some u.heap.size ≠ v2.ownBlock := fun e => by have := (lt2 _ e.symm).1; omega
  refine ⟨h.bl.grown hg (by omega) (fun k hk => by have := (lt2 k hk).1; omega), hg.cell h.c0 far, hg.cell h.c1 far, ?_, ?_, Nat.lt_of_lt_of_le hs hg.size, h.o1.kept hg ?_, ?_, ?_⟩
  · rw [hg.frozen_far _ hs far]; exact h.f0
  · rw [hg.frozen_far _ hs far]; exact h.f1
  · cases e : v1.ownBlock with
    | none => exact Or.inl rfl
    | some b => exact Or.inr fun c => h.ap b e c.symm
  · rw [List.length_append, frs_app]; exact ho
  · intro b hb hb2
    rcases hat with c | c
    · exact h.ap b hb (by rw [← c]; exact hb2)
    · rw [c] at hb2
      have := (lt1 b hb).2
      cases hb2
      omega
theorem takes_snoc {qs : List Rat} {k : Nat} (h : k < qs.length) : qs.take (k + 1) = qs.take k ++ [qs.getD k 0] := by
  rw [List.take_succ_eq_append_getElem h]; simp [List.getD, h]
theorem tot_next {qs : List Rat} {k : Nat} (h : k < qs.length) : tot (qs.take (k + 1)) = tot (qs.take k) + qs.getD k 0 := by
  rw [takes_snoc h, tot_snoc]
theorem map_next (F : Rat → Rat) {qs : List Rat} {k : Nat} (h : k < qs.length) : (qs.take (k + 1)).map F = (qs.take k).map F ++ [F (qs.getD k 0)] := by
  rw [takes_snoc h, List.map_append]; rfl
theorem getD_mem {qs : List Rat} {k : Nat} (h : k < qs.length) : qs.getD k 0 ∈ qs := by
  simp [List.getD, h]
end
end Go.Proofs.YtfblgaffkflenaaGreatDoor.Tn
