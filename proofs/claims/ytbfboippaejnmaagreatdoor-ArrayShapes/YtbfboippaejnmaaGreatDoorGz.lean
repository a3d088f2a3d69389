/-
  A TENSOR THAT GROWS IN A BOX OF ONE'S OWN: what stands between the rounds of a loop that appends to its numbers, and what each round leaves of it. Conditions: none.
-/
import Derived.Test.YtbfboippaejnmaaGreatDoorLc
namespace Go.Proofs.YtbfboippaejnmaaGreatDoor.Tn
set_option maxRecDepth 100000
open Go.RowKit Nm
set_option linter.unusedVariables false

/-- u: the world ahead of the loop; the box lies at block Z of it; its numbers lie in blocks behind u -/
structure Gz (u wr : World) (Z : Nat) (x0 v : Value) (k : Nat) (L : List Value) : Prop where
  hi : Z < u.heap.size
  c0 : wr.cell? ⟨Z, 0, none⟩ = some x0
  c1 : wr.cell? ⟨Z, 1, none⟩ = some v
  f1 : wr.frozen? ⟨Z, 1, none⟩ = false
  ow : wr.ownsRow u.heap.size 9 1 v k L
  bl : Below Z u wr
  kp : ∀ b, b < u.heap.size → b ≠ Z → wr.heap[b]? = u.heap[b]?
theorem Gz.start {u : World} {Z : Nat} {x0 : Value} (c0 : u.cell? ⟨Z, 0, none⟩ = some x0) (c1 : u.cell? ⟨Z, 1, none⟩ = some (.slice none 0 0)) (f1 : u.frozen? ⟨Z, 1, none⟩ = false) : Gz u u Z x0 (.slice none 0 0) 0 [] :=
  ⟨row_lt c1, c0, c1, f1, World.ownsRow_nil _ _ _ _, Below.refl _ _, fun _ _ _ => rfl⟩
section
variable {u wr w3 w4 : World} {Z : Nat} {x0 v v' : Value} {k k' : Nat} {L L' : List Value}
theorem Gz.sz (h : Gz u wr Z x0 v k L) : u.heap.size ≤ wr.heap.size := h.bl.size
theorem Gz.block (h : Gz u wr Z x0 v k L) (hu : Below wr.heap.size wr w3) (hg : w3.grownBy w4 v.ownBlock) {b : Nat} (hb : b < u.heap.size) : w4.heap[b]? = wr.heap[b]? := by
  have h1 := h.sz
  have h2 := hu.size
  rw [hg.block b (by omega) (fun e => by have := (World.ownsRow.lt h.ow _ e.symm).1; omega), hu.block b (by omega)]
theorem Gz.next (h : Gz u wr Z x0 v k L) (hu : Below wr.heap.size wr w3) (hg : w3.grownBy w4 v.ownBlock) (ho : w4.ownsRow u.heap.size 9 1 v' k' L') : Gz u (w4.setCell ⟨Z, 1, none⟩ v') Z x0 v' k' L' := by
  have hz := h.hi
  have h1 := h.sz
  have h2 := hu.size
  have bz := h.block hu hg hz
  have hc1 : w4.cell? ⟨Z, 1, none⟩ = some v := by rw [World.cell?_of_block (w := wr) bz]; exact h.c1
  refine ⟨hz, ?_, World.cell?_setCell_same _ _ _ hc1, ?_, ownsRow_setCell_below ho hz _, ?_, fun b hb hne => ?_⟩
  · rw [World.cell?_setCell_other _ _ _ _ (by intro e; injection e with _ e2; cases e2), World.cell?_of_block (w := wr) bz]; exact h.c0
  · rw [World.frozen?_setCell, World.frozen?_of_block (w := wr) bz]; exact h.f1
  · exact ((h.bl.trans (hu.mono (by omega))).grown hg (by omega) (fun k hk => by have := (World.ownsRow.lt h.ow _ hk).1; omega)).setCell (Nat.le_refl _) _
  · rw [Below.heap_setCell _ _ _ _ hne, h.block hu hg hb, h.kp b hb hne]
theorem Gz.cell (h : Gz u wr Z x0 v k L) {b o : Nat} {x : Value} (hc : u.cell? ⟨b, o, none⟩ = some x) (hne : b ≠ Z) : wr.cell? ⟨b, o, none⟩ = some x := by
  rw [World.cell?_of_block (w := u) (h.kp b (row_lt hc) hne)]; exact hc
theorem Gz.froz (h : Gz u wr Z x0 v k L) {b o : Nat} (hc : u.frozen? ⟨b, o, none⟩ = false) (hb : b < u.heap.size) (hne : b ≠ Z) : wr.frozen? ⟨b, o, none⟩ = false := by
  rw [World.frozen?_of_block (w := u) (h.kp b hb hne)]; exact hc
theorem Gz.below (h : Gz u wr Z x0 v k L) {w : World} (hw : Below w.heap.size w u) (hz : w.heap.size ≤ Z) : Below w.heap.size w wr := hw.trans (h.bl.mono hz)
/-- when the loop has ended -/
theorem Gz.done (h : Gz u wr Z x0 v k L) : ∃ b1 d1, v = .slice b1 k d1 ∧ Row wr b1 L := by
  obtain ⟨b1, d1, ev, hr, _⟩ := Row.of_own h.ow
  exact ⟨b1, d1, ev, hr⟩
end
theorem blk_cell {w : World} {b : Nat} {a : Array Value} {t : TypeId} (h : w.heap[b]? = some (.cells a t (0, 0))) (i : Nat) : w.cell? ⟨b, i, none⟩ = a[i]? := by simp [World.cell?, h]
theorem blk_froz {w : World} {b : Nat} {a : Array Value} {t : TypeId} (h : w.heap[b]? = some (.cells a t (0, 0))) (i : Nat) : w.frozen? ⟨b, i, none⟩ = false := by simp [World.frozen?, h]
theorem Gz.row {u wr : World} {Z k : Nat} {x0 v : Value} {L vs : List Value} {ao : Option Addr} (h : Gz u wr Z x0 v k L) (hr : Row u ao vs) (hne : ∀ b off sp, ao = some ⟨b, off, sp⟩ → b ≠ Z) : Row wr ao vs := by
  intro i y hy
  obtain ⟨b, off, e, hc⟩ := hr i y hy
  exact ⟨b, off, e, h.cell hc (hne _ _ _ e)⟩
/-- when the loop has ended: the numbers lie behind the world ahead of it -/
theorem Gz.far {u wr : World} {Z k : Nat} {x0 v : Value} {L : List Value} (h : Gz u wr Z x0 v k L) : ∃ b1 d1, v = .slice b1 k d1 ∧ Row wr b1 L ∧ ∀ b off sp, b1 = some ⟨b, off, sp⟩ → u.heap.size ≤ b ∧ b < wr.heap.size := by
  obtain ⟨b1, d1, ev, hr, _, _, _, hfr⟩ := Row.of_own h.ow
  exact ⟨b1, d1, ev, hr, fun b off sp e => ⟨(hfr b off sp e).2.1, (hfr b off sp e).2.2.1⟩⟩
theorem txts_ones (k : Nat) (q : Rat) : txts ((List.replicate (k + 1) q).map R) = txts ((List.replicate k q).map R) ++ [.string (R q)] := by
  rw [List.replicate_succ', List.map_append, txts_app]; rfl
theorem txts_reps (k : Nat) (s : ByteArray) : txts (List.replicate (k + 1) s) = txts (List.replicate k s) ++ [.string s] := by
  rw [List.replicate_succ', txts_app]; rfl
theorem row_bound {n q : Nat} (h : n * q ≤ 64) (hn : n ≤ 64) (hq : q ≤ 64) : q * ((n * (40 + 40 + 1) + 1) + 40 + 1) + 1 ≤ 20000 := by
  have e1 : q * ((n * (40 + 40 + 1) + 1) + 40 + 1) = n * q * 81 + q * 42 := by grind
  omega
theorem R1 : R 1 = ⟨#[49]⟩ := by decide +kernel
theorem R0 : R 0 = ⟨#[48]⟩ := by decide +kernel
theorem bd_one : Bd 1 40 := Bd.of_size (by rw [R1]; decide)
theorem bd_zero : Bd 0 40 := Bd.of_size (by rw [R0]; decide)
end Go.Proofs.YtbfboippaejnmaaGreatDoor.Tn
