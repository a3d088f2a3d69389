/-
  SHAPES AS LISTS OF WHOLE NUMBERS, AND SLICES OF THEM IN MEMORY. Nothing of the program's text is named here. No conditions.
-/
import Derived.Test.YtjelhhchlffjbaaSh
import Derived.WalkKit
import Derived.WalkSpells
import Derived.WalkLawsBesides
namespace Go.Proofs.Ytjelhhchlffjbaa
open Go.RowKit
set_option linter.unusedVariables false

/-- the numbers, as naturals -/
def nats (zs : List Int) : List Nat := zs.map Int.toNat
/-- is it a shape? -/
def rgt (zs : List Int) : Bool := decide (zs.length ≤ 4 ∧ (∀ z, z ∈ zs → 1 ≤ z) ∧ shz (nats zs) ≤ 64)
abbrev Rgt (zs : List Int) : Prop := rgt zs = true
theorem Rgt.out {zs : List Int} (h : Rgt zs) : zs.length ≤ 4 ∧ (∀ z, z ∈ zs → 1 ≤ z) ∧ shz (nats zs) ≤ 64 := of_decide_eq_true h
theorem Rgt.put {zs : List Int} (h : zs.length ≤ 4 ∧ (∀ z, z ∈ zs → 1 ≤ z) ∧ shz (nats zs) ≤ 64) : Rgt zs := decide_eq_true h
/-- its size; 0, if it is none -/
def szI (zs : List Int) : Nat := if Rgt zs then shz (nats zs) else 0
/-- so far, so good -/
def Pf (zs : List Int) (k : Nat) : Prop := (∀ z, z ∈ zs.take k → 1 ≤ z) ∧ shz (nats (zs.take k)) ≤ 64

theorem take_more (zs : List Int) (k : Nat) (h : k < zs.length) : zs.take (k + 1) = zs.take k ++ [zs.getD k 0] := by
  rw [List.take_succ_eq_append_getElem h]; simp [List.getD, h]
theorem nats_app (a b : List Int) : nats (a ++ b) = nats a ++ nats b := by simp [nats]
theorem pos_nats {zs : List Int} (h : ∀ z, z ∈ zs → 1 ≤ z) : pos (nats zs) := by
  intro a ha
  obtain ⟨z, hz, rfl⟩ := List.mem_map.1 ha
  have := h z hz
  omega
theorem size_more (zs : List Int) (k : Nat) (h : k < zs.length) : shz (nats (zs.take (k + 1))) = shz (nats (zs.take k)) * (zs.getD k 0).toNat := by
  rw [take_more zs k h, nats_app]; exact shz_snoc _ _
theorem Pf.zero (zs : List Int) : Pf zs 0 := ⟨by simp, by simp [nats, shz]⟩
theorem Pf.one_le {zs : List Int} {k : Nat} (h : Pf zs k) : 1 ≤ shz (nats (zs.take k)) := shz_pos (pos_nats h.1)
theorem Pf.next {zs : List Int} {k : Nat} (h : Pf zs k) (hk : k < zs.length) (h1 : 1 ≤ zs.getD k 0) (h2 : shz (nats (zs.take k)) * (zs.getD k 0).toNat ≤ 64) : Pf zs (k + 1) := by
  refine ⟨fun z hz => ?_, by rw [size_more zs k hk]; exact h2⟩
  rw [take_more zs k hk] at hz
  rcases List.mem_append.1 hz with c | c
  · exact h.1 z c
  · rw [List.mem_singleton.1 c]; exact h1
theorem Rgt.pf {zs : List Int} (h : Rgt zs) (k : Nat) : Pf zs k := by
  have e : shz (nats zs) = shz (nats (zs.take k)) * shz (nats (zs.drop k)) := by
    rw [← shz_app, ← nats_app, List.take_append_drop]
  have p : 1 ≤ shz (nats (zs.drop k)) := shz_pos (pos_nats fun z hz => h.out.2.1 z (List.mem_of_mem_drop hz))
  have := h.out.2.2
  refine ⟨fun z hz => h.out.2.1 z (List.mem_of_mem_take hz), ?_⟩
  have := Nat.le_mul_of_pos_right (shz (nats (zs.take k))) p
  omega
theorem Rgt.at {zs : List Int} (h : Rgt zs) {k : Nat} (hk : k < zs.length) : 1 ≤ zs.getD k 0 ∧ shz (nats (zs.take k)) * (zs.getD k 0).toNat ≤ 64 := by
  refine ⟨?_, ?_⟩
  · have : zs.getD k 0 = zs[k] := by simp [List.getD, hk]
    rw [this]; exact h.out.2.1 _ (List.getElem_mem hk)
  · rw [← size_more zs k hk]; exact (h.pf (k + 1)).2
theorem Rgt.of {zs : List Int} (hl : zs.length ≤ 4) (h : Pf zs zs.length) : Rgt zs := by
  have := h
  unfold Pf at this
  rw [List.take_length] at this
  exact Rgt.put ⟨hl, this.1, this.2⟩
theorem szI_of {zs : List Int} (h : Rgt zs) : szI zs = shz (nats zs) := if_pos h
theorem szI_no {zs : List Int} (h : ¬ Rgt zs) : szI zs = 0 := if_neg h
theorem Rgt.one_le {zs : List Int} (h : Rgt zs) : 1 ≤ shz (nats zs) := shz_pos (pos_nats h.out.2.1)
theorem szI_pos (zs : List Int) : 0 < szI zs ↔ Rgt zs := by
  by_cases h : Rgt zs
  · rw [szI_of h]; exact ⟨fun _ => h, fun _ => h.one_le⟩
  · rw [szI_no h]; exact ⟨fun c => absurd c (by omega), fun c => absurd c h⟩
theorem szI_le (zs : List Int) : szI zs ≤ 64 := by
  by_cases h : Rgt zs
  · rw [szI_of h]; exact h.out.2.2
  · rw [szI_no h]; omega

/-- the first numbers of two slices are the same -/
theorem getD_ext {xs ys : List Int} (hl : xs.length = ys.length) (h : ∀ i, i < xs.length → xs.getD i 0 = ys.getD i 0) : xs = ys := by
  apply List.ext_getElem hl
  intro i h1 h2
  have := h i h1
  simpa [List.getD, h1, h2] using this

/-- is it a place of the shape? -/
def innI (ss ts : List Int) : Bool := decide (ts.length = ss.length ∧ ∀ i, i < ss.length → 0 ≤ ts.getD i 0 ∧ ts.getD i 0 < ss.getD i 0)
abbrev Inn (ss ts : List Int) : Prop := innI ss ts = true
theorem Inn.out {ss ts : List Int} (h : Inn ss ts) : ts.length = ss.length ∧ ∀ i, i < ss.length → 0 ≤ ts.getD i 0 ∧ ts.getD i 0 < ss.getD i 0 := of_decide_eq_true h
theorem Inn.put {ss ts : List Int} (h : ts.length = ss.length ∧ ∀ i, i < ss.length → 0 ≤ ts.getD i 0 ∧ ts.getD i 0 < ss.getD i 0) : Inn ss ts := decide_eq_true h
theorem Inn.nat {ss ts : List Int} (h : Inn ss ts) : inn (nats ss) (nats ts) = true := by
  induction ss generalizing ts with
  | nil =>
    obtain ⟨h1, _⟩ := h.out
    cases ts with
    | nil => rfl
    | cons x t => simp at h1
  | cons a ss ih =>
    obtain ⟨h1, h2⟩ := h.out
    cases ts with
    | nil => simp at h1
    | cons x t =>
      have a0 := h2 0 (by simp)
      simp at a0
      have := ih (ts := t) (Inn.put ⟨by simpa using h1, fun i hi => by simpa using h2 (i + 1) (by simpa using hi)⟩)
      have e1 : nats (a :: ss) = a.toNat :: nats ss := rfl
      have e2 : nats (x :: t) = x.toNat :: nats t := rfl
      rw [e1, e2]
      simp only [inn, this, Bool.and_true, decide_eq_true_eq]
      omega
theorem cnt_snoc {s t : List Nat} (h : t.length = s.length) (a x : Nat) : cnt (s ++ [a]) (t ++ [x]) = cnt s t * a + x := by
  induction s generalizing t with
  | nil => cases t with
    | nil => simp [cnt, shz]
    | cons y t => simp at h
  | cons b s ih => cases t with
    | nil => simp at h
    | cons y t =>
      simp only [List.cons_append, cnt]
      rw [ih (by simpa using h), shz_snoc, Nat.add_mul, Nat.mul_assoc, Nat.add_assoc]
theorem getD_take (zs : List Int) {i k : Nat} (h : i < k) : (zs.take k).getD i 0 = zs.getD i 0 := by
  simp [List.getD, h]
/-- so far a place -/
def Pl (ss ts : List Int) (k : Nat) : Prop := ∀ i, i < k → 0 ≤ ts.getD i 0 ∧ ts.getD i 0 < ss.getD i 0
theorem Pl.inn {ss ts : List Int} {k : Nat} (h : Pl ss ts k) (hl : ts.length = ss.length) (hk : k ≤ ss.length) : Inn (ss.take k) (ts.take k) := by
  refine Inn.put ⟨by simp; omega, fun i hi => ?_⟩
  have : i < k := by simp at hi; omega
  rw [getD_take _ this, getD_take _ this]
  exact h i this
theorem Pl.lt {ss ts : List Int} {k : Nat} (h : Pl ss ts k) (hl : ts.length = ss.length) (hk : k ≤ ss.length) (hr : Rgt ss) : cnt (nats (ss.take k)) (nats (ts.take k)) < 64 :=
  Nat.lt_of_lt_of_le (cnt_lt (h.inn hl hk).nat) (hr.pf k).2
theorem cnt_more {ss ts : List Int} {k : Nat} (hl : ts.length = ss.length) (hk : k < ss.length) :
    cnt (nats (ss.take (k + 1))) (nats (ts.take (k + 1))) = cnt (nats (ss.take k)) (nats (ts.take k)) * (ss.getD k 0).toNat + (ts.getD k 0).toNat := by
  rw [take_more ss k hk, take_more ts k (by omega), nats_app, nats_app]
  exact cnt_snoc (by simp [nats]; omega) _ _
theorem Pl.next {ss ts : List Int} {k : Nat} (h : Pl ss ts k) (h1 : 0 ≤ ts.getD k 0) (h2 : ts.getD k 0 < ss.getD k 0) : Pl ss ts (k + 1) := by
  intro i hi
  by_cases e : i = k
  · rw [e]; exact ⟨h1, h2⟩
  · exact h i (by omega)

/-- the same, but for draws -/
structure Sm (w w' : World) : Prop where
  os : w'.os = w.os
  tape : w'.tape = w.tape
  output : w'.output = w.output
  heap : w'.heap = w.heap
theorem Sm.refl (w : World) : Sm w w := ⟨rfl, rfl, rfl, rfl⟩
theorem Sm.trans {w u v : World} (h : Sm w u) (k : Sm u v) : Sm w v := ⟨k.os.trans h.os, k.tape.trans h.tape, k.output.trans h.output, k.heap.trans h.heap⟩
theorem Sm.drew (w : World) : Sm w w.drew := ⟨rfl, rfl, rfl, rfl⟩
theorem Sm.below {w u : World} (h : Sm w u) (B : Nat) : Below B w u := ⟨h.os, h.tape, h.output, by rw [h.heap]; exact Nat.le_refl _, fun k hk => by rw [h.heap]⟩
theorem Sm.cell {w u : World} (h : Sm w u) (a : Addr) : u.cell? a = w.cell? a := by simp [World.cell?, h.heap]

/-- a slice holds these numbers -/
def Sl (w : World) (ao : Option Addr) (zs : List Int) : Prop := ∀ i, i < zs.length → ∃ b off, ao = some ⟨b, off, none⟩ ∧ w.cell? ⟨b, off + i, none⟩ = some (.int .i64 (zs.getD i 0))

theorem cell_lt {w : World} {a : Addr} {v : Value} (h : w.cell? a = some v) : a.block < w.heap.size := by
  rcases Nat.lt_or_ge a.block w.heap.size with c | c
  · exact c
  · simp [World.cell?, Array.getElem?_eq_none c] at h
theorem Sl.below {w w' : World} {ao : Option Addr} {zs : List Int} (h : Sl w ao zs) (hb : Below w.heap.size w w') : Sl w' ao zs := by
  intro i hi
  obtain ⟨b, off, e, hc⟩ := h i hi
  exact ⟨b, off, e, by rw [hb.cell (p := ⟨b, off + i, none⟩) (cell_lt hc)]; exact hc⟩
theorem Sl.nil (w : World) (ao : Option Addr) : Sl w ao [] := fun i hi => by cases hi
theorem Sl.mk {w : World} {b off : Nat} {zs : List Int} (h : ∀ i, i < zs.length → w.cell? ⟨b, off + i, none⟩ = some (.int .i64 (zs.getD i 0))) : Sl w (some ⟨b, off, none⟩) zs :=
  fun i hi => ⟨b, off, rfl, h i hi⟩
theorem Sl.at {w : World} {b off : Nat} {zs : List Int} (h : Sl w (some ⟨b, off, none⟩) zs) {i : Nat} (hi : i < zs.length) : w.cell? ⟨b, off + i, none⟩ = some (.int .i64 (zs.getD i 0)) := by
  obtain ⟨b', off', e, hc⟩ := h i hi
  cases e
  exact hc
end Go.Proofs.Ytjelhhchlffjbaa
