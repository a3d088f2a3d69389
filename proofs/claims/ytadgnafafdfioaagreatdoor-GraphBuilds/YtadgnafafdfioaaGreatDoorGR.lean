/-
  A MAP OF TEXTS TO NUMBERS IN MEMORY: as a list of pairs; put, looked up. Nothing of the program's text is named here. Conditions: each theorem's own.
-/
import Derived.Maps.Own
import Derived.Lib.SliceRun
import Derived.Test.YtadgnafafdfioaaGreatDoorGm
import Derived.Test.YtadgnafafdfioaaGreatDoorGP
import Derived.Test.YtadgnafafdfioaaGreatDoorGX
namespace Go.Proofs.YtadgnafafdfioaaGreatDoor.Gr
open Go.Proofs.YtadgnafafdfioaaGreatDoor.Rd
set_option linter.unusedVariables false
set_option linter.unusedSimpArgs false

open Go.RowKit Go.Maps Go.ChangeMaps Go.WideMaps
/-- an entry -/
def ents : List (ByteArray × Int) → Nat → List MapEntry
  | [], _ => []
  | p :: l, c => ⟨.string p.1, .int .i64 p.2, c⟩ :: ents l (c + 1)
theorem ents_snoc (l : List (ByteArray × Int)) (p : ByteArray × Int) (c : Nat) : ents (l ++ [p]) c = ents l c ++ [⟨.string p.1, .int .i64 p.2, c + l.length⟩] := by
  induction l generalizing c with
  | nil => rfl
  | cons q l ih =>
    rw [List.cons_append]
    simp only [ents, ih, List.cons_append, List.length_cons]
    congr 4
    omega
/-- the value that stands at a key -/
def fp : List (ByteArray × Int) → ByteArray → Option Int
  | [], _ => none
  | p :: l, x => if p.1 = x then some p.2 else fp l x
theorem fp_none {l : List (ByteArray × Int)} {x : ByteArray} : fp l x = none ↔ ∀ p ∈ l, p.1 ≠ x := by
  induction l with
  | nil => simp [fp]
  | cons p l ih =>
    unfold fp
    by_cases h : p.1 = x
    · simp [h]
    · rw [if_neg h, ih]; simp [h]
theorem ba_eq {a b : ByteArray} : (a == b) = decide (a = b) := by
  have e : (a == b) = (a.data == b.data) := by cases a; cases b; rfl
  rw [e]
  by_cases h : a = b
  · simp [h]
  · have : ¬ a.data = b.data := fun c => h (by cases a; cases b; simp at c; rw [c])
    simp [h, this]
theorem find_ents (l : List (ByteArray × Int)) (x : ByteArray) (c i : Nat) : (fp l x = none → Instr.findNow .string (.string x) (ents l c) i = some none) ∧ ∀ v, fp l x = some v → ∃ j, Instr.findNow .string (.string x) (ents l c) i = some (some (j, .int .i64 v)) := by
  induction l generalizing c i with
  | nil => exact ⟨fun _ => rfl, fun v h => by cases h⟩
  | cons p l ih =>
    unfold fp
    simp only [ents, Instr.findNow, Instr.sameNow, ba_eq]
    by_cases h : p.1 = x
    · rw [if_pos h]
      refine ⟨fun h => (by cases h), fun v hv => ?_⟩
      cases hv
      exact ⟨i, by simp [h]⟩
    · have h' : ¬ x = p.1 := fun e => h e.symm
      rw [if_neg h]
      simp only [h', decide_false]
      exact ih (c + 1) (i + 1)
/-- a map of texts to numbers, in memory -/
def Mz (w : World) (b : Nat) (l : List (ByteArray × Int)) : Prop := w.heap[b]? = some (.map (ents l 0).toArray l.length)
theorem Mz.below {w v : World} {B b : Nat} {l : List (ByteArray × Int)} (h : Mz w b l) (hb : Below B w v) (hB : b < B) : Mz v b l := by
  unfold Mz at h ⊢
  rw [hb.block b hB]; exact h
theorem Mz.lt {w : World} {b : Nat} {l : List (ByteArray × Int)} (h : Mz w b l) : b < w.heap.size := by
  unfold Mz at h
  exact (Array.getElem?_eq_some_iff.1 h).1
theorem Mz.nil (w : World) : Mz (w.alloc (.map #[] 0)) w.heap.size [] := heap_alloc_new w _
theorem find_run {P : Program} {k : TypeId} {x : Value} {es : List MapEntry} {r : Option (Nat × Value)} (w : World) (hk : P.underlying k = some .string) (hn : Instr.findNow .string x es 0 = some r) : (Instr.findKey k x es).run P w = .ok r w := by
  unfold Instr.findKey
  rw [Sem.run_bind, run_underlying hk]
  simp only [Result.andThen, hn]
  rfl
theorem Mz.put {P : Program} {w : World} {t k e : TypeId} {b : Nat} {l : List (ByteArray × Int)} {x : ByteArray} {n : Int} (h : Mz w b l) (ht : P.underlying t = some (.map k e)) (hk : P.underlying k = some .string)
    (hs : x.size ≤ maxLen) (hn : fp l x = none) :
    ∃ w', (Instr.mapUpdate t (.map (some b)) (.string x) (.int .i64 n)).run P w = .ok () w' ∧ Mz w' b (l ++ [(x, n)]) ∧ ∃ o, w' = setBlock w b o := by
  have hc := (string_keyed hk).check w false (keyOf_string_mk hk hs)
  have hf := find_run w hk ((find_ents l x 0 0).1 hn)
  refine ⟨setBlock w b (.map ((ents l 0).toArray.push ⟨.string x, .int .i64 n, l.length⟩) (l.length + 1)), ?_, ?_, _, rfl⟩
  · unfold Mz at h
    simp [Instr.mapUpdate, run_underlying ht, MapKept.run_getObj_map h, hc, hf, MapKept.run_setObj_map _ h, Result.andThen, setBlock]
  · unfold Mz
    have := heap_setBlock_same h (.map ((ents l 0).toArray.push ⟨.string x, .int .i64 n, l.length⟩) (l.length + 1))
    rw [this, ents_snoc]
    simp
theorem Mz.look {P : Program} {w : World} {t k e : TypeId} {b : Nat} {l : List (ByteArray × Int)} {x : ByteArray} {v : Int} (h : Mz w b l) (ht : P.underlying t = some (.map k e)) (hk : P.underlying k = some .string)
    (hs : x.size ≤ maxLen) (hn : fp l x = some v) :
    (Instr.lookup t (.map (some b)) (.string x) true).run P w = .ok (.tuple #[.int .i64 v, .bool true]) w := by
  unfold Mz at h
  obtain ⟨j, hj⟩ := (find_ents l x 0 0).2 v hn
  have hc := (string_keyed hk).check w (ents l 0).toArray.isEmpty (keyOf_string_mk hk hs)
  have hf := find_run w hk hj
  simp only [List.isEmpty_toArray] at hc
  simp [Instr.lookup, run_underlying ht, MapKept.run_getObj_map h, hc, hf, Result.andThen]
theorem Mz.look_no {P : Program} {w : World} {t k e : TypeId} {b : Nat} {l : List (ByteArray × Int)} {x : ByteArray} (h : Mz w b l) (ht : P.underlying t = some (.map k e)) (hk : P.underlying k = some .string)
    (hs : x.size ≤ maxLen) (hn : fp l x = none) (hz : (zeroValue e).run P w = .ok (.int .i64 0) w) :
    (Instr.lookup t (.map (some b)) (.string x) true).run P w = .ok (.tuple #[.int .i64 0, .bool false]) w := by
  unfold Mz at h
  have hc := (string_keyed hk).check w (ents l 0).toArray.isEmpty (keyOf_string_mk hk hs)
  have hf := find_run w hk ((find_ents l x 0 0).1 hn)
  simp only [List.isEmpty_toArray] at hc
  simp [Instr.lookup, run_underlying ht, MapKept.run_getObj_map h, hc, hf, hz, Result.andThen]
theorem below_set {B b : Nat} {w w' : World} (h : Below B w w') (hb : B ≤ b) (o : Obj) : Below B w (setBlock w' b o) :=
  ⟨h.os, h.tape, h.output, by simpa [setBlock] using h.size, fun k hk => by
    have : (setBlock w' b o).heap[k]? = w'.heap[k]? := by unfold setBlock; rw [Array.getElem?_setIfInBounds_ne (by omega)]
    rw [this]; exact h.block k hk⟩
theorem cell_set {w : World} {b k off : Nat} (o : Obj) (h : k ≠ b) : (setBlock w b o).cell? ⟨k, off, none⟩ = w.cell? ⟨k, off, none⟩ := by
  have : (setBlock w b o).heap[k]? = w.heap[k]? := by unfold setBlock; rw [Array.getElem?_setIfInBounds_ne (Ne.symm h)]
  simp only [World.cell?]
  rw [this]
end Go.Proofs.YtadgnafafdfioaaGreatDoor.Gr
/-
  RIGHT GRAPHS, NODE BY NODE: the names that have been, as pairs. Conditions: each theorem's own.
-/
namespace Go.Proofs.YtadgnafafdfioaaGreatDoor.Gr
open Go.Proofs.YtadgnafafdfioaaGreatDoor.Rd
set_option maxRecDepth 100000
open Go.RowKit
set_option linter.unusedVariables false
set_option linter.unusedSimpArgs false

/-- the names among the first k nodes, and where they stand -/
def nps (l : List Nd) : Nat → List (ByteArray × Int)
  | 0 => []
  | k + 1 => nps l k ++ (if nmd (l.getD k zn).op then [((l.getD k zn).name, (k : Int))] else [])
theorem nps_mem {l : List Nd} {k : Nat} {p : ByteArray × Int} : p ∈ nps l k ↔ ∃ j, j < k ∧ nmd (l.getD j zn).op = true ∧ p = ((l.getD j zn).name, (j : Int)) := by
  induction k with
  | zero => simp [nps]
  | succ k ih =>
    unfold nps
    rw [List.mem_append, ih]
    constructor
    · rintro (⟨j, h1, h2, h3⟩ | h)
      · exact ⟨j, by omega, h2, h3⟩
      · split at h
        · rename_i hn
          rw [List.mem_singleton] at h
          exact ⟨k, by omega, hn, h⟩
        · cases h
    · rintro ⟨j, h1, h2, h3⟩
      by_cases e : j = k
      · subst e
        right
        rw [if_pos h2, List.mem_singleton]; exact h3
      · exact .inl ⟨j, by omega, h2, h3⟩
theorem size_em {x : ByteArray} (h : x.size = 0) : x = em := by
  have := Array.eq_empty_of_size_eq_zero (xs := x.data) h
  cases x; simp only at this; rw [this]
theorem nok_name {op name : ByteArray} (h : nok op name = true) : (nmd op = true → ¬ name.size = 0) ∧ (nmd op = false → name.size = 0) := by
  unfold nok at h; unfold nmd
  constructor
  · intro c e
    rw [if_pos c] at h
    rw [size_em e, nmb_em] at h; cases h
  · intro c
    rw [if_neg (by rw [c]; decide)] at h
    simpa using h
theorem shp_nok_of {l : List Nd} {n : Nd} {s : List Int} (h : shp l n = some s) : nok n.op n.name = true := by
  obtain ⟨m, _, _, h3, _⟩ := shp_some h
  exact h3
theorem nri_plain {l : List Nd} {k : Nat} (hs : shp (l.take k) (l.getD k zn) = some (l.getD k zn).shape) (hn : nmd (l.getD k zn).op = false) : nri l k = true := by
  unfold nri
  rw [hs, (nok_name (shp_nok_of hs)).2 hn]
  simp
theorem nri_named {l : List Nd} {k : Nat} (hj : ∀ j, j < k → nri l j = true) (hs : shp (l.take k) (l.getD k zn) = some (l.getD k zn).shape) (hn : nmd (l.getD k zn).op = true) :
    nri l k = (fp (nps l k) (l.getD k zn).name).isNone := by
  have h0 := (nok_name (shp_nok_of hs)).1 hn
  unfold nri
  rw [hs, decide_eq_false h0, decide_eq_true rfl, Bool.true_and, Bool.false_or, Bool.eq_iff_iff, List.all_eq_true, Option.isNone_iff_eq_none, fp_none]
  constructor
  · intro h p hp
    obtain ⟨j, h1, h2, rfl⟩ := nps_mem.1 hp
    have := h j (List.mem_range.2 h1)
    simpa using this
  · intro h j hjk
    have hjk := List.mem_range.1 hjk
    simp only [decide_eq_true_eq, ne_eq]
    cases hm : nmd (l.getD j zn).op with
    | true => exact h _ (nps_mem.2 ⟨j, hjk, hm, rfl⟩)
    | false =>
      intro e
      have := (nok_name (shp_nok_of (nri_shp (hj j hjk)))).2 hm
      rw [e] at this
      exact h0 this
theorem nri_shape_no {l : List Nd} {k : Nat} (h : ¬ shp (l.take k) (l.getD k zn) = some (l.getD k zn).shape) : nri l k = false := by
  unfold nri
  rw [decide_eq_false h, Bool.false_and]
theorem nrs_all {l : List Nd} (h : ∀ j, j < l.length → nri l j = true) : nrs l = true := by
  unfold nrs
  rw [List.all_eq_true]
  exact fun j hj => h j (List.mem_range.1 hj)
theorem take_shapes {l : List Nd} {k : Nat} (hk : k ≤ l.length) (h : ∀ j, j < k → nri l j = true) : ∀ i, i < (l.take k).length → Sp.Rgt ((l.take k).getD i zn).shape := by
  intro i hi
  rw [List.length_take] at hi
  rw [getD_take_nd (by omega)]
  exact shp_rgt (nri_shp (h i (by omega)))
theorem Nl.take {w : World} {ao : Option Addr} {l : List Nd} (h : Nl w ao l) (k : Nat) : Nl w ao (l.take k) := by
  intro i hi
  rw [List.length_take] at hi
  rw [getD_take_nd (by omega)]
  exact h i (by omega)
theorem grt_long {l : List Nd} {loss : Int} (h : 200 < l.length) : grt l loss = false := by
  unfold grt
  rw [decide_eq_false (p := l.length ≤ 200) (by omega)]; simp
theorem grt_nri {l : List Nd} {loss : Int} {k : Nat} (hk : k < l.length) (h : nri l k = false) : grt l loss = false := grt_no (nrs_no hk h)
theorem grt_end {l : List Nd} {loss : Int} (h2 : l.length ≤ 200) (h : nrs l = true) : grt l loss = (inl l.length loss && decide ((sha l loss).length = 0)) := by
  unfold grt
  rw [h, decide_eq_true h2]
  cases hi : inl l.length loss with
  | false => simp
  | true =>
    have := inl_iff.1 hi
    rw [decide_eq_true (by omega)]; simp
end Go.Proofs.YtadgnafafdfioaaGreatDoor.Gr
/-
  Small OF THE DOCUMENT: whether a graph is short enough to be gone through. Conditions: each theorem's own.
-/
namespace Go.Proofs.YtadgnafafdfioaaGreatDoor.Gr
open Go.Proofs.YtadgnafafdfioaaGreatDoor.Rd
set_option maxRecDepth 100000
open Go.RowKit
set_option linter.unusedVariables false
set_option linter.unusedSimpArgs false

/-- a node that is short -/
def sma (n : Nd) : Bool := decide (n.shape.length ≤ 10) && decide (n.data.length ≤ 70) && decide (n.k.size ≤ 30) && decide (n.name.size ≤ 30) && n.data.all fun x => decide (x.size ≤ 30)
def sml (l : List Nd) : Bool := decide (l.length ≤ 40) && l.all sma
theorem sma_nb {n : Nd} (h : sma n = true) : Nb n := by
  unfold sma at h
  simp only [Bool.and_eq_true, decide_eq_true_eq, List.all_eq_true] at h
  obtain ⟨⟨⟨⟨h1, h2⟩, h3⟩, h4⟩, h5⟩ := h
  exact ⟨by omega, by omega, by omega, by omega, fun x hx => by have := h5 x hx; omega⟩
theorem sml_at {l : List Nd} (h : sml l = true) {i : Nat} (hi : i < l.length) : sma (l.getD i zn) = true := by
  unfold sml at h
  simp only [Bool.and_eq_true, List.all_eq_true] at h
  rw [List.getD_eq_getElem?_getD, List.getElem?_eq_getElem hi]
  exact h.2 _ (List.getElem_mem hi)
theorem sml_len {l : List Nd} (h : sml l = true) : l.length ≤ 40 := by
  unfold sml at h
  simp only [Bool.and_eq_true, decide_eq_true_eq] at h
  exact h.1
theorem all_nd {p : Nd → Bool} {l : List Nd} (h : ∀ i, i < l.length → p (l.getD i zn) = true) : l.all p = true := by
  rw [List.all_eq_true]
  intro x hx
  obtain ⟨i, hi, rfl⟩ := List.getElem_of_mem hx
  have := h i hi
  rw [List.getD_eq_getElem?_getD, List.getElem?_eq_getElem hi] at this
  exact this
theorem all_nd_no {p : Nd → Bool} {l : List Nd} {i : Nat} (hi : i < l.length) (h : p (l.getD i zn) = false) : l.all p = false := by
  rw [List.all_eq_false]
  rw [List.getD_eq_getElem?_getD, List.getElem?_eq_getElem hi] at h
  have h' : p l[i] = false := h
  exact ⟨l[i], List.getElem_mem hi, by rw [h']; decide⟩
/-- the cells of a node at a place -/
theorem Nl.at {w : World} {ao : Option Addr} {l : List Nd} (h : Nl w ao l) {i : Nat} (hi : i < l.length) :
    ∃ b off sa sc da dc, ao = some ⟨b, off, none⟩ ∧ Sp.Sl w sa (l.getD i zn).shape ∧ Row w da (txts (l.getD i zn).data) ∧
      w.cell? ⟨b, off + i * 8, none⟩ = some (.string (l.getD i zn).op) ∧ w.cell? ⟨b, off + i * 8 + 1, none⟩ = some (.int .i64 (l.getD i zn).a) ∧ w.cell? ⟨b, off + i * 8 + 2, none⟩ = some (.int .i64 (l.getD i zn).b) ∧ w.cell? ⟨b, off + i * 8 + 3, none⟩ = some (.string (l.getD i zn).name) ∧
      w.cell? ⟨b, off + i * 8 + 4, none⟩ = some (.slice sa (l.getD i zn).shape.length sc) ∧ w.cell? ⟨b, off + i * 8 + 5, none⟩ = some (.string (l.getD i zn).k) ∧ w.cell? ⟨b, off + i * 8 + 6, none⟩ = some (.int .i64 (l.getD i zn).n) ∧ w.cell? ⟨b, off + i * 8 + 7, none⟩ = some (.slice da (l.getD i zn).data.length dc) := by
  obtain ⟨b, off, cs, e, ⟨sa, sc, da, dc, rfl, h1, h2⟩, hc⟩ := h i hi
  exact ⟨b, off, sa, sc, da, dc, e, h1, h2, hc 0 (by omega), hc 1 (by omega), hc 2 (by omega), hc 3 (by omega), hc 4 (by omega), hc 5 (by omega), hc 6 (by omega), hc 7 (by omega)⟩

set_option maxHeartbeats 8000000 in
theorem Small_any (l : List Nd) (ao : Option Addr) (c : Nat) (loss : Int) (w : World) (hl : Nl w ao l) :
    Calls Tryz.prog 6 #[.agg #[.slice ao l.length c, .int .i64 loss]] w fun e w' => e = .returned (.bool (sml l)) ∧ Below w.heap.size w w' := by
  have HB : Hid (∀ o, Below w.heap.size w (w.alloc o)) := fun o => bl_alloc (Below.refl _ _) o
  by_cases h40 : 40 < l.length
  · have e : sml l = false := by unfold sml; rw [decide_eq_false (by omega)]; rfl
    rw [e]
    clear e hl
    generalize l.length = ll at h40 ⊢
    go_enter Tryz.func6, Tryz.ntmps6
    go_wp2
    go_ret
    exact ⟨rfl, HB.out _⟩
  have e : sml l = l.all sma := by unfold sml; rw [decide_eq_true (by omega)]; rfl
  rw [e]
  clear e
  have HM : Hid ((∀ i, i < l.length → sma (l.getD i zn) = true) → l.all sma = true) := all_nd
  have HNo : Hid (∀ i, i < l.length → sma (l.getD i zn) = false → l.all sma = false) := fun i hi h => all_nd_no hi h
  have HL : Hid (∀ v, Below w.heap.size w v → ∀ i, i < l.length → ∃ b off sa sc da dc, ao = some ⟨b, off, none⟩ ∧ Sp.Sl v sa (l.getD i zn).shape ∧ Row v da (txts (l.getD i zn).data) ∧
      v.cell? ⟨b, off + i * 8, none⟩ = some (.string (l.getD i zn).op) ∧ v.cell? ⟨b, off + i * 8 + 1, none⟩ = some (.int .i64 (l.getD i zn).a) ∧ v.cell? ⟨b, off + i * 8 + 2, none⟩ = some (.int .i64 (l.getD i zn).b) ∧ v.cell? ⟨b, off + i * 8 + 3, none⟩ = some (.string (l.getD i zn).name) ∧
      v.cell? ⟨b, off + i * 8 + 4, none⟩ = some (.slice sa (l.getD i zn).shape.length sc) ∧ v.cell? ⟨b, off + i * 8 + 5, none⟩ = some (.string (l.getD i zn).k) ∧ v.cell? ⟨b, off + i * 8 + 6, none⟩ = some (.int .i64 (l.getD i zn).n) ∧ v.cell? ⟨b, off + i * 8 + 7, none⟩ = some (.slice da (l.getD i zn).data.length dc)) := fun v hv i hi => (hl.below hv).at hi
  generalize l.all sma = al at HM HNo ⊢
  obtain ⟨N, hN⟩ : ∃ N, l.length = N := ⟨_, rfl⟩
  rw [hN] at HM HNo HL h40 ⊢
  clear hN hl
  go_enter Tryz.func6, Tryz.ntmps6
  go_wp2_with fail
  go_loopw [14] (fun i wr => ∃ k : Nat, k ≤ N ∧ i = .int .i64 (k : Int) ∧ (∀ j, j < k → sma (l.getD j zn) = true) ∧ Below w.heap.size w wr) (fun i _ => N - (intOf i).toNat)
  case atStart => exact ⟨0, by omega, rfl, fun j hj => by omega, HB.out _⟩
  case round =>
    obtain ⟨k, hk, rfl, hj, hb⟩ := hrel
    have HJ : Hid _ := And.intro hj hb
    clear hj
    by_cases h : k < N
    · obtain ⟨b, off, sa, sc, da, dc, rfl, hS, hD, c0, c1, c2, c3, c4, c5, c6, c7⟩ := HL.out wr hb k h
      clear hb hS
      obtain ⟨nd, hnd⟩ : ∃ z, l.getD k zn = z := ⟨_, rfl⟩
      rw [hnd] at c0 c1 c2 c3 c4 c5 c6 c7 hD
      have HX : Hid _ := hnd
      clear hnd
      obtain ⟨op, A, B, name, zs, K, n, data⟩ := nd
      simp only at c0 c1 c2 c3 c4 c5 c6 c7 hD
      have HF : Hid (sma ⟨op, A, B, name, zs, K, n, data⟩ = false → al = false) := fun hf => HNo.out k h (by rw [HX.out]; exact hf)
      have HBr : Hid (∀ o, Below w.heap.size w (wr.alloc o)) := fun o => HJ.out.2.alloc HJ.out.2.size o
      have HD : Hid (∀ v, Below wr.heap.size wr v → ∀ i, i < data.length → ∃ b off, da = some ⟨b, off, none⟩ ∧ v.cell? ⟨b, off + i, none⟩ = some (.string (data.getD i em))) := fun v hv i hi => row_s (Row.below hD hv) hi
      have HS1 : Hid (10 < zs.length → sma ⟨op, A, B, name, zs, K, n, data⟩ = false) := fun h => by unfold sma; simp only; rw [decide_eq_false (p := zs.length ≤ 10) (by omega)]; simp
      have HS2 : Hid (70 < data.length → sma ⟨op, A, B, name, zs, K, n, data⟩ = false) := fun h => by unfold sma; simp only; rw [decide_eq_false (p := data.length ≤ 70) (by omega)]; simp
      have HS3 : Hid (30 < K.size → sma ⟨op, A, B, name, zs, K, n, data⟩ = false) := fun h => by unfold sma; simp only; rw [decide_eq_false (p := K.size ≤ 30) (by omega)]; simp
      have HS4 : Hid (30 < name.size → sma ⟨op, A, B, name, zs, K, n, data⟩ = false) := fun h => by unfold sma; simp only; rw [decide_eq_false (p := name.size ≤ 30) (by omega)]; simp
      have HS5 : Hid (∀ i, i < data.length → 30 < (data.getD i em).size → sma ⟨op, A, B, name, zs, K, n, data⟩ = false) := fun i hi h => by
        unfold sma; simp only
        rw [all_n (p := fun x => decide (x.size ≤ 30)) hi (by rw [decide_eq_false (by omega)])]; simp
      have HS6 : Hid (zs.length ≤ 10 → data.length ≤ 70 → K.size ≤ 30 → name.size ≤ 30 → (∀ i, i < data.length → (data.getD i em).size ≤ 30) → sma ⟨op, A, B, name, zs, K, n, data⟩ = true) := fun h1 h2 h3 h4 h5 => by
        unfold sma; simp only
        rw [all_y (p := fun x => decide (x.size ≤ 30)) (fun i hi => decide_eq_true (h5 i hi))]; simp [h1, h2, h3, h4]
      clear hD
      obtain ⟨sm, hsm⟩ : ∃ b, sma ⟨op, A, B, name, zs, K, n, data⟩ = b := ⟨_, rfl⟩
      have HSM : Hid _ := hsm
      rw [hsm] at HF HS1 HS2 HS3 HS4 HS5 HS6
      clear hsm
      obtain ⟨zl, hzl⟩ : ∃ m, zs.length = m := ⟨_, rfl⟩
      obtain ⟨dl, hdl⟩ : ∃ m, data.length = m := ⟨_, rfl⟩
      rw [hzl] at HS1 HS6 c4
      rw [hdl] at HS2 HS5 HS6 HD c7
      clear hzl hdl
      by_cases g1 : 10 < zl
      · go_wp2
        go_ret
        exact ⟨by rw [HF.out (HS1.out g1)]; rfl, HBr.out _⟩
      by_cases g2 : 70 < dl
      · go_wp2
        go_ret
        exact ⟨by rw [HF.out (HS2.out g2)]; rfl, HBr.out _⟩
      by_cases g3 : 30 < K.size
      · go_wp2
        go_ret
        exact ⟨by rw [HF.out (HS3.out g3)]; rfl, HBr.out _⟩
      by_cases g4 : 30 < name.size
      · go_wp2
        go_ret
        exact ⟨by rw [HF.out (HS4.out g4)]; rfl, HBr.out _⟩
      have HBa : Hid (∀ o, Below wr.heap.size wr (wr.alloc o)) := fun o => bl_alloc (Below.refl _ _) o
      go_wp2_with fail
      go_loop [43] (fun i => ∃ m : Nat, m ≤ dl ∧ i = .int .i64 (m : Int) ∧ (∀ j, j < m → (data.getD j em).size ≤ 30)) (fun i => dl - (intOf i).toNat)
      case atStart => exact ⟨0, by omega, rfl, fun j hj => by omega⟩
      case round =>
        obtain ⟨m, hm, rfl, hj⟩ := hrel
        have HJ2 : Hid _ := hj
        clear hj
        by_cases hmm : m < dl
        · obtain ⟨b', off', rfl, hcx⟩ := HD.out _ (HBa.out (.cells #[.string op, .int .i64 A, .int .i64 B, .string name, .slice sa zl sc, .string K, .int .i64 n, .slice da dl dc] 28)) m hmm
          obtain ⟨x, hx⟩ : ∃ z, data.getD m em = z := ⟨_, rfl⟩
          rw [hx] at hcx
          have HXx : Hid _ := hx
          clear hx
          by_cases g5 : 30 < x.size
          · go_wp2
            go_ret
            exact ⟨by rw [HF.out (HS5.out m hmm (by rw [HXx.out]; exact g5))]; rfl, HBr.out _⟩
          · go_wp2
            go_round
            case rel =>
              refine ⟨m + 1, by omega, by go_num, fun j hj => ?_⟩
              by_cases e : j = m
              · rw [e, HXx.out]; omega
              · exact HJ2.out j (by omega)
            case measure => simp [intOf]; omega
        · have HT : Hid (sm = true) := HS6.out (by omega) (by omega) (by omega) (by omega) (fun i hi => HJ2.out i (by omega))
          go_wp2
          go_roundw
          case rel =>
            refine ⟨k + 1, by omega, by go_num, fun j hj => ?_, HBr.out _⟩
            by_cases e : j = k
            · rw [e, HX.out, HSM.out]; exact HT.out
            · exact HJ.out.1 j (by omega)
          case measure => simp [intOf]; omega
    · have HT : Hid (al = true) := HM.out (fun i hi => HJ.out.1 i (by omega))
      clear hb
      go_wp2
      go_ret
      exact ⟨by rw [HT.out]; rfl, HJ.out.2⟩
end Go.Proofs.YtadgnafafdfioaaGreatDoor.Gr
