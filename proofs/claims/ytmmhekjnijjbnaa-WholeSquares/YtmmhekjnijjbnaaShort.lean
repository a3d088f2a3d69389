/-
  ORDER OF LIMBS, COPIES, AND SHORT DIVISION: what a call of compare, slices.Clone and divideByLimb gives. Conditions: sizes; the limbs' form.
-/
import Derived.Test.YtmmhekjnijjbnaaOps
import Derived.Test.YtmmhekjnijjbnaaNmDiv
import Derived.Deep.QuietTactic
import Derived.BigQuiet
namespace Go.Proofs.Ytmmhekjnijjbnaa
open Go.RowKit Nm
set_option linter.unusedVariables false

/-- nothing has turned but the count of draws -/
structure Sm (w w' : World) : Prop where
  os : w'.os = w.os
  tape : w'.tape = w.tape
  output : w'.output = w.output
  heap : w'.heap = w.heap

theorem Sm.refl (w : World) : Sm w w := ⟨rfl, rfl, rfl, rfl⟩
theorem Sm.trans {a b c : World} (h : Sm a b) (k : Sm b c) : Sm a c := ⟨k.os.trans h.os, k.tape.trans h.tape, k.output.trans h.output, k.heap.trans h.heap⟩
theorem Sm.drewN (w : World) (n : Nat) : Sm w (w.drewN n) := ⟨rfl, rfl, rfl, rfl⟩
theorem Sm.drew (w : World) : Sm w w.drew := ⟨rfl, rfl, rfl, rfl⟩
theorem Sm.below {w w' : World} (h : Sm w w') (B : Nat) : Below B w w' := ⟨h.os, h.tape, h.output, by rw [h.heap]; exact Nat.le_refl _, fun k _ => by rw [h.heap]⟩
theorem Rw.sm {w w' : World} {b off n : Nat} {f : Nat → Nat} (h : Rw w b off f n) (hs : Sm w w') : Rw w' b off f n := fun i hi => by rw [World.cell?_of_block (w := w) (a := ⟨b, off + i, none⟩) (by rw [hs.heap])]; exact h i hi
theorem Ow.sm {w w' : World} {k : IntKind} {b n : Nat} {f : Nat → Nat} (h : Ow w k b f n) (hs : Sm w w') : Ow w' k b f n :=
  ⟨fun i hi => by rw [World.cell?_of_block (w := w) (a := ⟨b, i, none⟩) (by rw [hs.heap])]; exact h.cell i hi, fun i => by rw [World.frozen?_of_block (w := w) (a := ⟨b, i, none⟩) (by rw [hs.heap])]; exact h.frz i, by rw [hs.heap]; exact h.lt⟩

theorem vals_get (f : Nat → Nat) (n j : Nat) (u : Value) (h : (vals f n)[j]? = some u) : j < n ∧ u = .int .i64 (f j : Nat) := by
  unfold vals at h
  rw [List.getElem?_map] at h
  rcases Nat.lt_or_ge j n with c | c
  · rw [List.getElem?_range c] at h; simp at h; exact ⟨c, h.symm⟩
  · rw [List.getElem?_eq_none (by simpa using c)] at h; simp at h

theorem vals_one (f : Nat → Nat) (n : Nat) : ∀ u ∈ vals f n, u.oneCell' = true := by
  intro u hu
  unfold vals at hu
  obtain ⟨i, _, rfl⟩ := List.mem_map.1 hu
  rfl

theorem addr_add (b off j : Nat) : (⟨b, off, none⟩ : Addr).add j = ⟨b, off + j, none⟩ := by unfold Addr.add; split <;> simp_all

theorem Rw.news {w : World} {b off n : Nat} {f : Nat → Nat} (h : Rw w b off f n) : ∀ j u, (vals f n)[j]? = some u → w.cell? ((⟨b, off, none⟩ : Addr).add j) = some u := by
  intro j u hj
  obtain ⟨h1, rfl⟩ := vals_get f n j u hj
  rw [addr_add]; exact h j h1

theorem vals_len (f : Nat → Nat) (n : Nat) : (vals f n).length = n := by simp [vals]

/-- what is owned, as numbers -/
theorem Ow.of_vals {w : World} {base e n cap g : Nat} {f : Nat → Nat} (h : w.ownsRow base e 1 (.slice (some ⟨g, 0, none⟩) n cap) n (vals f n)) : Ow w .i64 g f n :=
  ⟨fun i hi => by rw [h.cellAt i (by omega)]; simp [vals, hi], fun i => h.frozenAt i, (h.lt g rfl).2⟩

end Go.Proofs.Ytmmhekjnijjbnaa
