/-
  A MAP OF TEXTS TO NUMBERS IN MEMORY: as a list of pairs; put, looked up. Nothing of the program's text is named here. Conditions: each theorem's own.
-/
import Derived.Maps.Own
import Derived.Lib.SliceRun
import Derived.Test.YtadgnafafdfioaaGreatDoorGm
namespace Go.Proofs.YtadgnafafdfioaaGreatDoor.Gr
open Go.Proofs.YtadgnafafdfioaaGreatDoor.Rd
set_option linter.unusedVariables false
set_option linter.unusedSimpArgs false

open Go.RowKit Go.Maps Go.ChangeMaps Go.WideMaps
/-- an entry -/
def ents : List (ByteArray × Int) → Nat → List MapEntry
  | [], _ => []
  | p :: l, c => ⟨.string p.1, .int .i64 p.2, c⟩ :: ents l (c + 1)
theorem ents_snoc (l : List (ByteArray × Int)) (p : ByteArray × Int) (c : Nat) : ents (l ++ [p]) c = ents l c ++ [⟨.string p.1, .int .i64 p.2, c + l.length⟩] := by
  induction l generalizing c with
  | nil => rfl
  | cons q l ih =>
    rw [List.cons_append]
    simp only [ents, ih, List.cons_append, List.length_cons]
    congr 4
    omega
/-- the value that stands at a key -/
def fp : List (ByteArray × Int) → ByteArray → Option Int
  | [], _ => none
  | p :: l, x => if p.1 = x then some p.2 else fp l x
theorem fp_none {l : List (ByteArray × Int)} {x : ByteArray} : fp l x = none ↔ ∀ p ∈ l, p.1 ≠ x := by
  induction l with
  | nil => simp [fp]
  | cons p l ih =>
    unfold fp
    by_cases h : p.1 = x
    · simp [h]
    · rw [if_neg h, ih]; simp [h]
theorem ba_eq {a b : ByteArray} : (a == b) = decide (a = b) := by
  have e : (a == b) = (a.data == b.data) := by cases a; cases b; rfl
  rw [e]
  by_cases h : a = b
  · simp [h]
  · have : ¬ a.data = b.data := fun c => h (by cases a; cases b; simp at c; rw [c])
    simp [h, this]
theorem find_ents (l : List (ByteArray × Int)) (x : ByteArray) (c i : Nat) : (fp l x = none → Instr.findNow .string (.string x) (ents l c) i = some none) ∧ ∀ v, fp l x = some v → ∃ j, Instr.findNow .string (.string x) (ents l c) i = some (some (j, .int .i64 v)) := by
  induction l generalizing c i with
  | nil => exact ⟨fun _ => rfl, fun v h => by cases h⟩
  | cons p l ih =>
    unfold fp
    simp only [ents, Instr.findNow, Instr.sameNow, ba_eq]
    by_cases h : p.1 = x
    · rw [if_pos h]
      refine ⟨fun h => (by cases h), fun v hv => ?_⟩
      cases hv
      exact ⟨i, by simp [h]⟩
    · have h' : ¬ x = p.1 := fun e => h e.symm
      rw [if_neg h]
      simp only [h', decide_false]
      exact ih (c + 1) (i + 1)
/-- a map of texts to numbers, in memory -/
def Mz (w : World) (b : Nat) (l : List (ByteArray × Int)) : Prop := w.heap[b]? = some (.map (ents l 0).toArray l.length)
theorem Mz.below {w v : World} {B b : Nat} {l : List (ByteArray × Int)} (h : Mz w b l) (hb : Below B w v) (hB : b < B) : Mz v b l := by
  unfold Mz at h ⊢
  rw [hb.block b hB]; exact h
theorem Mz.lt {w : World} {b : Nat} {l : List (ByteArray × Int)} (h : Mz w b l) : b < w.heap.size := by
  unfold Mz at h
  exact (Array.getElem?_eq_some_iff.1 h).1
theorem Mz.nil (w : World) : Mz (w.alloc (.map #[] 0)) w.heap.size [] := heap_alloc_new w _
theorem find_run {P : Program} {k : TypeId} {x : Value} {es : List MapEntry} {r : Option (Nat × Value)} (w : World) (hk : P.underlying k = some .string) (hn : Instr.findNow .string x es 0 = some r) : (Instr.findKey k x es).run P w = .ok r w := by
  unfold Instr.findKey
  rw [Sem.run_bind, run_underlying hk]
  simp only [Result.andThen, hn]
  rfl
theorem Mz.put {P : Program} {w : World} {t k e : TypeId} {b : Nat} {l : List (ByteArray × Int)} {x : ByteArray} {n : Int} (h : Mz w b l) (ht : P.underlying t = some (.map k e)) (hk : P.underlying k = some .string)
    (hs : x.size ≤ maxLen) (hn : fp l x = none) :
    ∃ w', (Instr.mapUpdate t (.map (some b)) (.string x) (.int .i64 n)).run P w = .ok () w' ∧ Mz w' b (l ++ [(x, n)]) ∧ ∃ o, w' = setBlock w b o := by
  have hc := (string_keyed hk).check w false (keyOf_string_mk hk hs)
  have hf := find_run w hk ((find_ents l x 0 0).1 hn)
  refine ⟨setBlock w b (.map ((ents l 0).toArray.push ⟨.string x, .int .i64 n, l.length⟩) (l.length + 1)), ?_, ?_, _, rfl⟩
  · unfold Mz at h
    simp [Instr.mapUpdate, run_underlying ht, MapKept.run_getObj_map h, hc, hf, MapKept.run_setObj_map _ h, Result.andThen, setBlock]
  · unfold Mz
    have := heap_setBlock_same h (.map ((ents l 0).toArray.push ⟨.string x, .int .i64 n, l.length⟩) (l.length + 1))
    rw [this, ents_snoc]
    simp
theorem Mz.look {P : Program} {w : World} {t k e : TypeId} {b : Nat} {l : List (ByteArray × Int)} {x : ByteArray} {v : Int} (h : Mz w b l) (ht : P.underlying t = some (.map k e)) (hk : P.underlying k = some .string)
    (hs : x.size ≤ maxLen) (hn : fp l x = some v) :
    (Instr.lookup t (.map (some b)) (.string x) true).run P w = .ok (.tuple #[.int .i64 v, .bool true]) w := by
  unfold Mz at h
  obtain ⟨j, hj⟩ := (find_ents l x 0 0).2 v hn
  have hc := (string_keyed hk).check w (ents l 0).toArray.isEmpty (keyOf_string_mk hk hs)
  have hf := find_run w hk hj
  simp only [List.isEmpty_toArray] at hc
  simp [Instr.lookup, run_underlying ht, MapKept.run_getObj_map h, hc, hf, Result.andThen]
theorem Mz.look_no {P : Program} {w : World} {t k e : TypeId} {b : Nat} {l : List (ByteArray × Int)} {x : ByteArray} (h : Mz w b l) (ht : P.underlying t = some (.map k e)) (hk : P.underlying k = some .string)
    (hs : x.size ≤ maxLen) (hn : fp l x = none) (hz : (zeroValue e).run P w = .ok (.int .i64 0) w) :
    (Instr.lookup t (.map (some b)) (.string x) true).run P w = .ok (.tuple #[.int .i64 0, .bool false]) w := by
  unfold Mz at h
  have hc := (string_keyed hk).check w (ents l 0).toArray.isEmpty (keyOf_string_mk hk hs)
  have hf := find_run w hk ((find_ents l x 0 0).1 hn)
  simp only [List.isEmpty_toArray] at hc
  simp [Instr.lookup, run_underlying ht, MapKept.run_getObj_map h, hc, hf, hz, Result.andThen]
theorem below_set {B b : Nat} {w w' : World} (h : Below B w w') (hb : B ≤ b) (o : Obj) : Below B w (setBlock w' b o) :=
  ⟨h.os, h.tape, h.output, by simpa [setBlock] using h.size, fun k hk => by
    have : (setBlock w' b o).heap[k]? = w'.heap[k]? := by unfold setBlock; rw [Array.getElem?_setIfInBounds_ne (by omega)]
    rw [this]; exact h.block k hk⟩
theorem cell_set {w : World} {b k off : Nat} (o : Obj) (h : k ≠ b) : (setBlock w b o).cell? ⟨k, off, none⟩ = w.cell? ⟨k, off, none⟩ := by
  have : (setBlock w b o).heap[k]? = w.heap[k]? := by unfold setBlock; rw [Array.getElem?_setIfInBounds_ne (Ne.symm h)]
  simp only [World.cell?]
  rw [this]
end Go.Proofs.YtadgnafafdfioaaGreatDoor.Gr
