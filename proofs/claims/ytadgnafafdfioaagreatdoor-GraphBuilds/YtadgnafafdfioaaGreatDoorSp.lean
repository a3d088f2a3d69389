/-
  SHAPES: as lists of numbers, slices of them in memory, and what the calls of package shape and of the document's shapes give. Conditions: each theorem's own.
-/
import Derived.Test.YtadgnafafdfioaaGreatDoorRows
import Derived.WalkKit
import Derived.WalkSpells
import Derived.WalkLawsBesides
import Derived.BigRegion
namespace Go.Proofs.YtadgnafafdfioaaGreatDoor.Sp
section
set_option linter.unusedVariables false

/-- a shape's size -/
def shz : List Nat → Nat
  | [] => 1
  | a :: s => a * shz s
/-- a place's count -/
def cnt : List Nat → List Nat → Nat
  | a :: s, x :: t => x * shz s + cnt s t
  | _, _ => 0
/-- the place of a count -/
def plc : List Nat → Nat → List Nat
  | [], _ => []
  | a :: s, n => n / shz s :: plc s (n % shz s)
/-- is it a place? -/
def inn : List Nat → List Nat → Bool
  | [], [] => true
  | a :: s, x :: t => decide (x < a) && inn s t
  | _, _ => false
/-- is it a shape? (as far as the numbers go) -/
def pos (s : List Nat) : Prop := ∀ a, a ∈ s → 1 ≤ a

theorem shz_pos {s : List Nat} (h : pos s) : 1 ≤ shz s := by
  induction s with
  | nil => simp [shz]
  | cons a s ih =>
    have h1 := h a List.mem_cons_self
    have h2 := ih (fun b hb => h b (List.mem_cons_of_mem _ hb))
    exact Nat.mul_pos h1 h2
theorem shz_app (s t : List Nat) : shz (s ++ t) = shz s * shz t := by
  induction s with
  | nil => simp [shz]
  | cons a s ih => simp [shz, ih, Nat.mul_assoc]
theorem shz_one (s : List Nat) : shz (1 :: s) = shz s := by simp [shz]
theorem shz_snoc (s : List Nat) (k : Nat) : shz (s ++ [k]) = shz s * k := by rw [shz_app]; simp [shz]
theorem shz_turn (s : List Nat) : shz s.reverse = shz s := by
  induction s with
  | nil => rfl
  | cons a s ih => rw [List.reverse_cons, shz_snoc, ih, Nat.mul_comm]; rfl
theorem shz_zero {s : List Nat} (h : ¬ pos s) : shz s = 0 := by
  induction s with
  | nil => exact absurd (fun a ha => by cases ha) h
  | cons a s ih =>
    by_cases ha : 1 ≤ a
    · have : ¬ pos s := fun c => h (fun b hb => by
        rcases List.mem_cons.1 hb with e | e
        · rw [e]; exact ha
        · exact c b e)
      simp [shz, ih this]
    · have : a = 0 := by omega
      simp [shz, this]
theorem shz_le {s : List Nat} (h : pos s) {a : Nat} (ha : a ∈ s) : a ≤ shz s := by
  induction s with
  | nil => cases ha
  | cons b s ih =>
    have hs : pos s := fun c hc => h c (List.mem_cons_of_mem _ hc)
    have p := shz_pos hs
    rcases List.mem_cons.1 ha with e | e
    · rw [e]; exact Nat.le_mul_of_pos_right b p
    · have := ih hs e
      have b1 := h b List.mem_cons_self
      exact Nat.le_trans this (Nat.le_mul_of_pos_left _ b1)
theorem inn_len {s t : List Nat} (h : inn s t = true) : t.length = s.length := by
  induction s generalizing t with
  | nil => cases t with
    | nil => rfl
    | cons x t => cases h
  | cons a s ih => cases t with
    | nil => cases h
    | cons x t => simp [inn] at h; simp [ih h.2]
theorem cnt_lt {s t : List Nat} (h : inn s t = true) : cnt s t < shz s := by
  induction s generalizing t with
  | nil => cases t with
    | nil => decide
    | cons x t => cases h
  | cons a s ih => cases t with
    | nil => cases h
    | cons x t =>
      simp [inn] at h
      have := ih h.2
      have h3 : (x + 1) * shz s ≤ a * shz s := Nat.mul_le_mul_right _ h.1
      simp only [cnt, shz]
      rw [Nat.add_mul, Nat.one_mul] at h3
      omega
theorem plc_inn {s : List Nat} (h : pos s) {n : Nat} (hn : n < shz s) : inn s (plc s n) = true := by
  induction s generalizing n with
  | nil => rfl
  | cons a s ih =>
    have hs : pos s := fun b hb => h b (List.mem_cons_of_mem _ hb)
    have p := shz_pos hs
    simp only [plc, inn, Bool.and_eq_true, decide_eq_true_eq]
    refine ⟨?_, ih hs (Nat.mod_lt _ p)⟩
    exact (Nat.div_lt_iff_lt_mul p).2 hn
theorem cnt_plc {s : List Nat} (h : pos s) {n : Nat} (hn : n < shz s) : cnt s (plc s n) = n := by
  induction s generalizing n with
  | nil => simp [shz] at hn; simp [cnt, hn]
  | cons a s ih =>
    have hs : pos s := fun b hb => h b (List.mem_cons_of_mem _ hb)
    have p := shz_pos hs
    simp only [plc, cnt]
    rw [ih hs (Nat.mod_lt _ p), Nat.mul_comm]
    exact Nat.div_add_mod n (shz s)
theorem plc_cnt {s t : List Nat} (h : inn s t = true) : plc s (cnt s t) = t := by
  induction s generalizing t with
  | nil => cases t with
    | nil => rfl
    | cons x t => cases h
  | cons a s ih => cases t with
    | nil => cases h
    | cons x t =>
      simp [inn] at h
      have lt := cnt_lt h.2
      have p : 0 < shz s := by omega
      simp only [plc, cnt]
      rw [Nat.mul_comm x, Nat.mul_add_div p, Nat.div_eq_of_lt lt, Nat.mul_add_mod, Nat.mod_eq_of_lt lt, ih h.2]
      rfl
theorem cnt_inj {s t u : List Nat} (h1 : inn s t = true) (h2 : inn s u = true) (e : cnt s t = cnt s u) : t = u := by
  rw [← plc_cnt h1, ← plc_cnt h2, e]
theorem plc_zero (s : List Nat) : plc s 0 = List.replicate s.length 0 := by
  induction s with
  | nil => rfl
  | cons a s ih => simp [plc, ih, List.replicate_succ]
theorem plc_last {s : List Nat} (h : pos s) : plc s (shz s - 1) = s.map (· - 1) := by
  induction s with
  | nil => rfl
  | cons a s ih =>
    have hs : pos s := fun b hb => h b (List.mem_cons_of_mem _ hb)
    have p := shz_pos hs
    have a1 := h a List.mem_cons_self
    have e : a * shz s - 1 = shz s * (a - 1) + (shz s - 1) := by
      obtain ⟨k, rfl⟩ : ∃ k, a = k + 1 := ⟨a - 1, by omega⟩
      rw [Nat.add_mul, Nat.one_mul, Nat.add_sub_cancel, Nat.mul_comm]; omega
    simp only [plc, shz, List.map_cons]
    rw [e, Nat.mul_add_div (by omega), Nat.div_eq_of_lt (by omega), Nat.mul_add_mod, Nat.mod_eq_of_lt (by omega), ih hs]
    rfl

/-- the place behind one, and whether there is one -/
def nxt : List Nat → List Nat → List Nat × Bool
  | a :: s, x :: t =>
    let r := nxt s t
    if r.2 then (x :: r.1, true) else if x + 1 < a then ((x + 1) :: r.1, true) else (0 :: r.1, false)
  | _, _ => ([], false)
theorem nxt_more {s t : List Nat} (h : inn s t = true) :
    if (nxt s t).2 then inn s (nxt s t).1 = true ∧ cnt s (nxt s t).1 = cnt s t + 1 else cnt s t + 1 = shz s ∧ (nxt s t).1 = List.replicate s.length 0 := by
  induction s generalizing t with
  | nil => cases t with
    | nil => simp [nxt, cnt, shz]
    | cons x t => cases h
  | cons a s ih => cases t with
    | nil => cases h
    | cons x t =>
      simp [inn] at h
      have k := ih h.2
      by_cases hc : (nxt s t).2 = true
      · have e : nxt (a :: s) (x :: t) = (x :: (nxt s t).1, true) := by simp [nxt, hc]
        rw [if_pos hc] at k
        rw [e]
        simp only [if_true, inn, cnt, Bool.and_eq_true, decide_eq_true_eq]
        exact ⟨⟨h.1, k.1⟩, by rw [k.2]; omega⟩
      · rw [if_neg hc] at k
        have pp : pos s := by
          by_cases hp : pos s
          · exact hp
          · have := shz_zero hp
            have := cnt_lt h.2
            omega
        have z : cnt s (List.replicate s.length 0) = 0 := by rw [← plc_zero]; exact cnt_plc pp (shz_pos pp)
        have hz : inn s (List.replicate s.length 0) = true := by rw [← plc_zero]; exact plc_inn pp (shz_pos pp)
        by_cases hx : x + 1 < a
        · have e : nxt (a :: s) (x :: t) = ((x + 1) :: List.replicate s.length 0, true) := by simp [nxt, hc, hx, k.2]
          rw [e]
          simp only [if_true, inn, cnt, Bool.and_eq_true, decide_eq_true_eq]
          refine ⟨⟨hx, hz⟩, ?_⟩
          rw [z, Nat.add_mul, Nat.one_mul]; omega
        · have e : nxt (a :: s) (x :: t) = (0 :: List.replicate s.length 0, false) := by simp [nxt, hc, hx, k.2]
          rw [e]
          simp only [Bool.false_eq_true, if_false, cnt, shz, List.length_cons, List.replicate_succ]
          refine ⟨?_, True.intro⟩
          have : a = x + 1 := by omega
          rw [this, Nat.add_mul, Nat.one_mul]; omega
end
end Go.Proofs.YtadgnafafdfioaaGreatDoor.Sp
namespace Go.Proofs.YtadgnafafdfioaaGreatDoor.Sp
section
open Go.RowKit
set_option linter.unusedVariables false

/-- the numbers, as naturals -/
def nats (zs : List Int) : List Nat := zs.map Int.toNat
/-- is it a shape? -/
abbrev Rgt (zs : List Int) : Prop := zs.length ≤ 4 ∧ (∀ z, z ∈ zs → 1 ≤ z) ∧ shz (nats zs) ≤ 64
/-- its size; 0, if it is none -/
def szI (zs : List Int) : Nat := if Rgt zs then shz (nats zs) else 0
/-- so far, so good -/
def Pf (zs : List Int) (k : Nat) : Prop := (∀ z, z ∈ zs.take k → 1 ≤ z) ∧ shz (nats (zs.take k)) ≤ 64

theorem take_more (zs : List Int) (k : Nat) (h : k < zs.length) : zs.take (k + 1) = zs.take k ++ [zs.getD k 0] := by
  rw [List.take_succ_eq_append_getElem h]; simp [List.getD, h]
theorem nats_app (a b : List Int) : nats (a ++ b) = nats a ++ nats b := by simp [nats]
theorem pos_nats {zs : List Int} (h : ∀ z, z ∈ zs → 1 ≤ z) : pos (nats zs) := by
  intro a ha
  obtain ⟨z, hz, rfl⟩ := List.mem_map.1 ha
  have := h z hz
  omega
theorem size_more (zs : List Int) (k : Nat) (h : k < zs.length) : shz (nats (zs.take (k + 1))) = shz (nats (zs.take k)) * (zs.getD k 0).toNat := by
  rw [take_more zs k h, nats_app]; exact shz_snoc _ _
theorem Pf.zero (zs : List Int) : Pf zs 0 := ⟨by simp, by simp [nats, shz]⟩
theorem Pf.one_le {zs : List Int} {k : Nat} (h : Pf zs k) : 1 ≤ shz (nats (zs.take k)) := shz_pos (pos_nats h.1)
theorem Pf.next {zs : List Int} {k : Nat} (h : Pf zs k) (hk : k < zs.length) (h1 : 1 ≤ zs.getD k 0) (h2 : shz (nats (zs.take k)) * (zs.getD k 0).toNat ≤ 64) : Pf zs (k + 1) := by
  refine ⟨fun z hz => ?_, by rw [size_more zs k hk]; exact h2⟩
  rw [take_more zs k hk] at hz
  rcases List.mem_append.1 hz with c | c
  · exact h.1 z c
  · rw [List.mem_singleton.1 c]; exact h1
theorem Rgt.pf {zs : List Int} (h : Rgt zs) (k : Nat) : Pf zs k := by
  have e : shz (nats zs) = shz (nats (zs.take k)) * shz (nats (zs.drop k)) := by
    rw [← shz_app, ← nats_app, List.take_append_drop]
  have p : 1 ≤ shz (nats (zs.drop k)) := shz_pos (pos_nats fun z hz => h.2.1 z (List.mem_of_mem_drop hz))
  have := h.2.2
  refine ⟨fun z hz => h.2.1 z (List.mem_of_mem_take hz), ?_⟩
  have := Nat.le_mul_of_pos_right (shz (nats (zs.take k))) p
  omega
theorem Rgt.at {zs : List Int} (h : Rgt zs) {k : Nat} (hk : k < zs.length) : 1 ≤ zs.getD k 0 ∧ shz (nats (zs.take k)) * (zs.getD k 0).toNat ≤ 64 := by
  refine ⟨?_, ?_⟩
  · have : zs.getD k 0 = zs[k] := by simp [List.getD, hk]
    rw [this]; exact h.2.1 _ (List.getElem_mem hk)
  · rw [← size_more zs k hk]; exact (h.pf (k + 1)).2
theorem Rgt.of {zs : List Int} (hl : zs.length ≤ 4) (h : Pf zs zs.length) : Rgt zs := by
  have := h
  unfold Pf at this
  rw [List.take_length] at this
  exact ⟨hl, this.1, this.2⟩
theorem szI_of {zs : List Int} (h : Rgt zs) : szI zs = shz (nats zs) := if_pos h
theorem szI_no {zs : List Int} (h : ¬ Rgt zs) : szI zs = 0 := if_neg h
theorem Rgt.one_le {zs : List Int} (h : Rgt zs) : 1 ≤ shz (nats zs) := shz_pos (pos_nats h.2.1)
theorem szI_pos (zs : List Int) : 0 < szI zs ↔ Rgt zs := by
  by_cases h : Rgt zs
  · rw [szI_of h]; exact ⟨fun _ => h, fun _ => h.one_le⟩
  · rw [szI_no h]; exact ⟨fun c => absurd c (by omega), fun c => absurd c h⟩
theorem szI_le (zs : List Int) : szI zs ≤ 64 := by
  by_cases h : Rgt zs
  · rw [szI_of h]; exact h.2.2
  · rw [szI_no h]; omega

/-- the first numbers of two slices are the same -/
theorem getD_ext {xs ys : List Int} (hl : xs.length = ys.length) (h : ∀ i, i < xs.length → xs.getD i 0 = ys.getD i 0) : xs = ys := by
  apply List.ext_getElem hl
  intro i h1 h2
  have := h i h1
  simpa [List.getD, h1, h2] using this

/-- is it a place of the shape? -/
abbrev Inn (ss ts : List Int) : Prop := ts.length = ss.length ∧ ∀ i, i < ss.length → 0 ≤ ts.getD i 0 ∧ ts.getD i 0 < ss.getD i 0
theorem Inn.nat {ss ts : List Int} (h : Inn ss ts) : inn (nats ss) (nats ts) = true := by
  induction ss generalizing ts with
  | nil =>
    obtain ⟨h1, _⟩ := h
    cases ts with
    | nil => rfl
    | cons x t => simp at h1
  | cons a ss ih =>
    obtain ⟨h1, h2⟩ := h
    cases ts with
    | nil => simp at h1
    | cons x t =>
      have a0 := h2 0 (by simp)
      simp at a0
      have := ih (ts := t) ⟨by simpa using h1, fun i hi => by simpa using h2 (i + 1) (by simpa using hi)⟩
      have e1 : nats (a :: ss) = a.toNat :: nats ss := rfl
      have e2 : nats (x :: t) = x.toNat :: nats t := rfl
      rw [e1, e2]
      simp only [inn, this, Bool.and_true, decide_eq_true_eq]
      omega
theorem cnt_snoc {s t : List Nat} (h : t.length = s.length) (a x : Nat) : cnt (s ++ [a]) (t ++ [x]) = cnt s t * a + x := by
  induction s generalizing t with
  | nil => cases t with
    | nil => simp [cnt, shz]
    | cons y t => simp at h
  | cons b s ih => cases t with
    | nil => simp at h
    | cons y t =>
      simp only [List.cons_append, cnt]
      rw [ih (by simpa using h), shz_snoc, Nat.add_mul, Nat.mul_assoc, Nat.add_assoc]
theorem getD_take (zs : List Int) {i k : Nat} (h : i < k) : (zs.take k).getD i 0 = zs.getD i 0 := by
  simp [List.getD, h]
/-- so far a place -/
def Pl (ss ts : List Int) (k : Nat) : Prop := ∀ i, i < k → 0 ≤ ts.getD i 0 ∧ ts.getD i 0 < ss.getD i 0
theorem Pl.inn {ss ts : List Int} {k : Nat} (h : Pl ss ts k) (hl : ts.length = ss.length) (hk : k ≤ ss.length) : Inn (ss.take k) (ts.take k) := by
  refine ⟨by simp; omega, fun i hi => ?_⟩
  have : i < k := by simp at hi; omega
  rw [getD_take _ this, getD_take _ this]
  exact h i this
theorem Pl.lt {ss ts : List Int} {k : Nat} (h : Pl ss ts k) (hl : ts.length = ss.length) (hk : k ≤ ss.length) (hr : Rgt ss) : cnt (nats (ss.take k)) (nats (ts.take k)) < 64 :=
  Nat.lt_of_lt_of_le (cnt_lt (h.inn hl hk).nat) (hr.pf k).2
theorem cnt_more {ss ts : List Int} {k : Nat} (hl : ts.length = ss.length) (hk : k < ss.length) :
    cnt (nats (ss.take (k + 1))) (nats (ts.take (k + 1))) = cnt (nats (ss.take k)) (nats (ts.take k)) * (ss.getD k 0).toNat + (ts.getD k 0).toNat := by
  rw [take_more ss k hk, take_more ts k (by omega), nats_app, nats_app]
  exact cnt_snoc (by simp [nats]; omega) _ _
theorem Pl.next {ss ts : List Int} {k : Nat} (h : Pl ss ts k) (h1 : 0 ≤ ts.getD k 0) (h2 : ts.getD k 0 < ss.getD k 0) : Pl ss ts (k + 1) := by
  intro i hi
  by_cases e : i = k
  · rw [e]; exact ⟨h1, h2⟩
  · exact h i (by omega)

/-- the same, but for draws -/
structure Sm (w w' : World) : Prop where
  os : w'.os = w.os
  tape : w'.tape = w.tape
  output : w'.output = w.output
  heap : w'.heap = w.heap
theorem Sm.refl (w : World) : Sm w w := ⟨rfl, rfl, rfl, rfl⟩
theorem Sm.trans {w u v : World} (h : Sm w u) (k : Sm u v) : Sm w v := ⟨k.os.trans h.os, k.tape.trans h.tape, k.output.trans h.output, k.heap.trans h.heap⟩
theorem Sm.drew (w : World) : Sm w w.drew := ⟨rfl, rfl, rfl, rfl⟩
theorem Sm.below {w u : World} (h : Sm w u) (B : Nat) : Below B w u := ⟨h.os, h.tape, h.output, by rw [h.heap]; exact Nat.le_refl _, fun k hk => by rw [h.heap]⟩
theorem Sm.cell {w u : World} (h : Sm w u) (a : Addr) : u.cell? a = w.cell? a := by simp [World.cell?, h.heap]

/-- a slice holds these numbers -/
def Sl (w : World) (ao : Option Addr) (zs : List Int) : Prop := ∀ i, i < zs.length → ∃ b off, ao = some ⟨b, off, none⟩ ∧ w.cell? ⟨b, off + i, none⟩ = some (.int .i64 (zs.getD i 0))

theorem cell_lt {w : World} {a : Addr} {v : Value} (h : w.cell? a = some v) : a.block < w.heap.size := by
  rcases Nat.lt_or_ge a.block w.heap.size with c | c
  · exact c
  · simp [World.cell?, Array.getElem?_eq_none c] at h
theorem Sl.below {w w' : World} {ao : Option Addr} {zs : List Int} (h : Sl w ao zs) (hb : Below w.heap.size w w') : Sl w' ao zs := by
  intro i hi
  obtain ⟨b, off, e, hc⟩ := h i hi
  exact ⟨b, off, e, by rw [hb.cell (p := ⟨b, off + i, none⟩) (cell_lt hc)]; exact hc⟩
theorem Sl.nil (w : World) (ao : Option Addr) : Sl w ao [] := fun i hi => by cases hi
theorem Sl.mk {w : World} {b off : Nat} {zs : List Int} (h : ∀ i, i < zs.length → w.cell? ⟨b, off + i, none⟩ = some (.int .i64 (zs.getD i 0))) : Sl w (some ⟨b, off, none⟩) zs :=
  fun i hi => ⟨b, off, rfl, h i hi⟩
theorem Sl.at {w : World} {b off : Nat} {zs : List Int} (h : Sl w (some ⟨b, off, none⟩) zs) {i : Nat} (hi : i < zs.length) : w.cell? ⟨b, off + i, none⟩ = some (.int .i64 (zs.getD i 0)) := by
  obtain ⟨b', off', e, hc⟩ := h i hi
  cases e
  exact hc
end
end Go.Proofs.YtadgnafafdfioaaGreatDoor.Sp
namespace Go.Proofs.YtadgnafafdfioaaGreatDoor.Sp
section
set_option maxRecDepth 100000
open Go.RowKit
set_option linter.unusedVariables false

theorem ret_int {k : IntKind} {a b : Int} (h : a = b) : Ending.returned (.int k a) = .returned (.int k b) := by rw [h]
theorem ret_bool {a b : Bool} (h : a = b) : Ending.returned (.bool a) = .returned (.bool b) := by rw [h]

set_option maxHeartbeats 1000000 in
theorem size_any (ao : Option Addr) (zs : List Int) (cap : Nat) (w : World) (hl : zs.length ≤ 1000) (hS : Sl w ao zs) :
    Calls Tryz.prog 39 #[.slice ao zs.length cap] w fun e w' => e = .returned (.int .i64 (szI zs : Nat)) ∧ w' = w := by
  by_cases h4 : 4 < zs.length
  · have hno : szI zs = 0 := szI_no fun c => by have := c.1; omega
    rw [hno]
    go_enter Tryz.func39, Tryz.ntmps39
    go_wp2
    go_ret
    exact ⟨rfl, rfl⟩
  · go_enter Tryz.func39, Tryz.ntmps39
    go_wp2
    go_loop [3, 5, 11] (fun p x i => ∃ k q : Nat, k ≤ zs.length ∧ i = .int .i64 k ∧ p = .int .i64 q ∧ 1 ≤ q ∧ q ≤ 64 ∧ q = shz (nats (zs.take k)) ∧ Pf zs k) (fun _ _ i => zs.length - (intOf i).toNat)
    case atStart => exact ⟨0, 1, by omega, rfl, rfl, by omega, by omega, by simp [nats, shz], Pf.zero zs⟩
    case round =>
      obtain ⟨k, q, hk, rfl, rfl, q1, q2, hq, hp⟩ := hrel
      have HQ : Hid (q = shz (nats (zs.take k)) ∧ Pf zs k) := ⟨hq, hp⟩
      clear hq hp
      by_cases h : k < zs.length
      · obtain ⟨b, off, rfl, hc⟩ := hS k h
        obtain ⟨z, hz⟩ : ∃ z, zs.getD k 0 = z := ⟨_, rfl⟩
        rw [hz] at hc
        have HZ : Hid (zs.getD k 0 = z) := hz
        clear hz hS
        by_cases h1 : z < 1
        · go_wp2
          go_ret
          refine ⟨ret_int ?_, rfl⟩
          rw [szI_no fun c => by have := (c.at h).1; rw [HZ.out] at this; omega]; rfl
        · have hqd : (64 : Int).tdiv q = ((64 / q : Nat) : Int) := by rw [Int.tdiv_eq_ediv_of_nonneg (by omega)]; rfl
          obtain ⟨d, hd⟩ : ∃ d : Nat, 64 / q = d := ⟨_, rfl⟩
          have hd64 : d ≤ 64 := by rw [← hd]; exact Nat.div_le_self _ _
          have HD : Hid (64 / q = d) := hd
          rw [hd] at hqd
          have hq0 : ¬ (q : Int) = 0 := by omega
          clear hd
          by_cases h2 : (d : Int) < z
          · go_wp2
            go_ret
            refine ⟨ret_int ?_, rfl⟩
            rw [szI_no fun c => by
              have c2 := (c.at h).2
              rw [HZ.out, ← HQ.out.1] at c2
              have : z.toNat ≤ 64 / q := (Nat.le_div_iff_mul_le (by omega)).2 (by rw [Nat.mul_comm]; exact c2)
              rw [HD.out] at this
              omega]
            rfl
          · have hm : q * z.toNat ≤ 64 := by
              have : z.toNat ≤ 64 / q := by rw [HD.out]; omega
              have := (Nat.le_div_iff_mul_le (by omega)).1 this
              rw [Nat.mul_comm]; exact this
            have hm2 : (q : Int) * z = ((q * z.toNat : Nat) : Int) := by rw [Int.natCast_mul, Int.toNat_of_nonneg (by omega)]
            have hm3 : 1 ≤ q * z.toNat := Nat.mul_pos (by omega) (by omega)
            obtain ⟨m, hm4⟩ : ∃ m, q * z.toNat = m := ⟨_, rfl⟩
            rw [hm4] at hm hm2 hm3
            have HM : Hid (q * z.toNat = m) := hm4
            clear hm4
            go_wp2
            go_round
            case rel =>
              refine ⟨k + 1, m, by omega, by go_num, rfl, hm3, hm, ?_, ?_⟩
              · rw [size_more zs k h, HZ.out, ← HQ.out.1]; exact HM.out.symm
              · exact HQ.out.2.next h (by rw [HZ.out]; omega) (by rw [HZ.out, ← HQ.out.1, HM.out]; exact hm)
            case measure => simp [intOf]; omega
      · go_wp2
        go_ret
        refine ⟨ret_int ?_, rfl⟩
        obtain ⟨e1, e2⟩ := HQ.out
        have e3 : k = zs.length := by omega
        subst e3
        rw [szI_of (Rgt.of (by omega) e2), e1, List.take_length]

set_option maxHeartbeats 400000 in
theorem right_any (ao : Option Addr) (zs : List Int) (cap : Nat) (w : World) (hl : zs.length ≤ 1000) (hS : Sl w ao zs) :
    Calls Tryz.prog 22 #[.slice ao zs.length cap] w fun e w' => e = .returned (.bool (decide (Rgt zs))) ∧ w' = w := by
  have hc := size_any ao zs cap w hl hS
  have hp := szI_pos zs
  obtain ⟨d, hd⟩ : ∃ d, decide (Rgt zs) = d := ⟨_, rfl⟩
  rw [hd]
  have HD : Hid _ := hd
  have HP : Hid _ := hp
  clear hd
  obtain ⟨n, hn⟩ : ∃ n, szI zs = n := ⟨_, rfl⟩
  rw [hn] at hc HP
  clear hp
  go_enter Tryz.func22, Tryz.ntmps22
  go_wp2_with fail
  refine hc.mono ?_
  rintro e w1 ⟨rfl, rfl⟩
  by_cases h : 0 < n
  · have h' : (0 : Int) < n := by omega
    go_wp2
    go_ret
    exact ⟨ret_bool (by rw [← HD.out]; exact (decide_eq_true (HP.out.1 h)).symm), rfl⟩
  · have h' : ¬ (0 : Int) < n := by omega
    go_wp2
    go_ret
    exact ⟨ret_bool (by rw [← HD.out]; exact (decide_eq_false (mt HP.out.2 h)).symm), rfl⟩

set_option maxHeartbeats 1000000 in
theorem refRight_any (ao : Option Addr) (zs : List Int) (cap : Nat) (w : World) (hl : zs.length ≤ 1000) (hS : Sl w ao zs) :
    Calls Tryz.prog 26 #[.slice ao zs.length cap] w fun e w' => e = .returned (.bool (decide (Rgt zs))) ∧ w' = w := by
  by_cases h4 : 4 < zs.length
  · have hno : ¬ Rgt zs := fun c => by have := c.1; omega
    rw [decide_eq_false hno]
    clear hno
    go_enter Tryz.func26, Tryz.ntmps26
    go_wp2
    go_ret
    exact ⟨rfl, rfl⟩
  · go_enter Tryz.func26, Tryz.ntmps26
    go_wp2
    go_loop [3, 4] (fun p i => ∃ k q : Nat, k ≤ zs.length ∧ i = .int .i64 k ∧ p = .int .i64 q ∧ 1 ≤ q ∧ q ≤ 64 ∧ q = shz (nats (zs.take k)) ∧ Pf zs k) (fun _ i => zs.length - (intOf i).toNat)
    case atStart => exact ⟨0, 1, by omega, rfl, rfl, by omega, by omega, by simp [nats, shz], Pf.zero zs⟩
    case round =>
      obtain ⟨k, q, hk, rfl, rfl, q1, q2, hq, hp⟩ := hrel
      have HQ : Hid (q = shz (nats (zs.take k)) ∧ Pf zs k) := ⟨hq, hp⟩
      clear hq hp
      by_cases h : k < zs.length
      · obtain ⟨b, off, rfl, hc⟩ := hS k h
        obtain ⟨z, hz⟩ : ∃ z, zs.getD k 0 = z := ⟨_, rfl⟩
        rw [hz] at hc
        have HZ : Hid (zs.getD k 0 = z) := hz
        clear hz hS
        by_cases h1 : z < 1
        · go_wp2
          go_ret
          refine ⟨ret_bool ?_, rfl⟩
          simpa using (fun c => by have := (c.at h).1; rw [HZ.out] at this; omega : ¬ Rgt zs)
        · by_cases h64 : 64 < z
          · go_wp2
            go_ret
            refine ⟨ret_bool ?_, rfl⟩
            simpa using (fun c => by
              have := (c.at h).2
              rw [HZ.out, ← HQ.out.1] at this
              have := Nat.le_mul_of_pos_left z.toNat (show 0 < q by omega)
              omega : ¬ Rgt zs)
          · have hm2 : (q : Int) * z = ((q * z.toNat : Nat) : Int) := by rw [Int.natCast_mul, Int.toNat_of_nonneg (by omega)]
            have hm3 : 1 ≤ q * z.toNat := Nat.mul_pos (by omega) (by omega)
            have hm5 : q * z.toNat ≤ 64 * 64 := Nat.mul_le_mul q2 (by omega)
            obtain ⟨m, hm4⟩ : ∃ m, q * z.toNat = m := ⟨_, rfl⟩
            rw [hm4] at hm5 hm2 hm3
            have HM : Hid (q * z.toNat = m) := hm4
            clear hm4
            by_cases h2 : 64 < m
            · have h2' : (64 : Int) < m := by omega
              go_wp2
              go_ret
              refine ⟨ret_bool ?_, rfl⟩
              simpa using (fun c => by
                have := (c.at h).2
                rw [HZ.out, ← HQ.out.1, HM.out] at this
                omega : ¬ Rgt zs)
            · have h2' : ¬ (64 : Int) < m := by omega
              go_wp2
              go_round
              case rel =>
                refine ⟨k + 1, m, by omega, by go_num, rfl, hm3, by omega, ?_, ?_⟩
                · rw [size_more zs k h, HZ.out, ← HQ.out.1]; exact HM.out.symm
                · exact HQ.out.2.next h (by rw [HZ.out]; omega) (by rw [HZ.out, ← HQ.out.1, HM.out]; omega)
              case measure => simp [intOf]; omega
      · go_wp2
        go_ret
        refine ⟨ret_bool ?_, rfl⟩
        obtain ⟨e1, e2⟩ := HQ.out
        have e3 : k = zs.length := by omega
        subst e3
        simpa using Rgt.of (by omega) e2

set_option maxHeartbeats 1000000 in
theorem refSize_any (ao : Option Addr) (zs : List Int) (cap : Nat) (w : World) (hr : Rgt zs) (hS : Sl w ao zs) :
    Calls Tryz.prog 27 #[.slice ao zs.length cap] w fun e w' => e = .returned (.int .i64 (szI zs : Nat)) ∧ w' = w := by
  have h4 := hr.1
  have HR : Hid (Rgt zs) := hr
  clear hr
  go_enter Tryz.func27, Tryz.ntmps27
  go_wp2
  go_loop [3, 4] (fun p i => ∃ k q : Nat, k ≤ zs.length ∧ i = .int .i64 k ∧ p = .int .i64 q ∧ 1 ≤ q ∧ q ≤ 64 ∧ q = shz (nats (zs.take k))) (fun _ i => zs.length - (intOf i).toNat)
  case atStart => exact ⟨0, 1, by omega, rfl, rfl, by omega, by omega, by simp [nats, shz]⟩
  case round =>
    obtain ⟨k, q, hk, rfl, rfl, q1, q2, hq⟩ := hrel
    have HQ : Hid (q = shz (nats (zs.take k))) := hq
    clear hq
    by_cases h : k < zs.length
    · obtain ⟨b, off, rfl, hc⟩ := hS k h
      obtain ⟨z, hz⟩ : ∃ z, zs.getD k 0 = z := ⟨_, rfl⟩
      rw [hz] at hc
      have HZ : Hid (zs.getD k 0 = z) := hz
      have h1 := (HR.out.at h).1
      have hm := (HR.out.at h).2
      rw [hz] at h1 hm
      rw [← HQ.out] at hm
      clear hz hS
      have hm2 : (q : Int) * z = ((q * z.toNat : Nat) : Int) := by rw [Int.natCast_mul, Int.toNat_of_nonneg (by omega)]
      have hm3 : 1 ≤ q * z.toNat := Nat.mul_pos (by omega) (by omega)
      obtain ⟨m, hm4⟩ : ∃ m, q * z.toNat = m := ⟨_, rfl⟩
      rw [hm4] at hm hm2 hm3
      have HM : Hid (q * z.toNat = m) := hm4
      clear hm4
      go_wp2
      go_round
      case rel =>
        refine ⟨k + 1, m, by omega, by go_num, rfl, hm3, by omega, ?_⟩
        rw [size_more zs k h, HZ.out, ← HQ.out]; exact HM.out.symm
      case measure => simp [intOf]; omega
    · go_wp2
      go_ret
      refine ⟨ret_int ?_, rfl⟩
      have e3 : k = zs.length := by omega
      subst e3
      rw [szI_of HR.out, HQ.out, List.take_length]

set_option maxHeartbeats 1000000 in
theorem refSame_any (a1 a2 : Option Addr) (xs ys : List Int) (c1 c2 : Nat) (w : World) (hl1 : xs.length ≤ 1000) (hl2 : ys.length ≤ 1000) (hS : Sl w a1 xs) (hT : Sl w a2 ys) :
    Calls Tryz.prog 12 #[.slice a1 xs.length c1, .slice a2 ys.length c2] w fun e w' => e = .returned (.bool (decide (xs = ys))) ∧ Sm w w' := by
  by_cases h0 : xs.length = ys.length
  · have hb : ((xs.length : Int) != ys.length) = false := by simp [h0]
    obtain ⟨n, hn⟩ : ∃ n, xs.length = n := ⟨_, rfl⟩
    have hm : ys.length = n := by omega
    have HN : Hid (xs.length = n ∧ ys.length = n) := ⟨hn, hm⟩
    have HS : Hid (Sl w a1 xs) := hS
    have HT : Hid (Sl w a2 ys) := hT
    rw [hn] at hl1
    rw [hn, hm]
    clear hn hm hS hT hl2 h0 hb
    go_enter Tryz.func12, Tryz.ntmps12
    go_wp2
    go_loopw [5] (fun i wr => ∃ k : Nat, k ≤ n ∧ i = .int .i64 k ∧ (∀ j, j < k → xs.getD j 0 = ys.getD j 0) ∧ Sm w wr) (fun i _ => n - (intOf i).toNat)
    case atStart => exact ⟨0, by omega, rfl, fun j hj => by omega, Sm.refl _⟩
    case round =>
      obtain ⟨k, hk, rfl, hj, hs⟩ := hrel
      have HJ : Hid (∀ j, j < k → xs.getD j 0 = ys.getD j 0) := hj
      clear hj
      by_cases h : k < n
      · obtain ⟨b, off, rfl, hc⟩ := HS.out k (by rw [HN.out.1]; exact h)
        obtain ⟨b', off', rfl, hd⟩ := HT.out k (by rw [HN.out.2]; exact h)
        obtain ⟨x, hx⟩ : ∃ z, xs.getD k 0 = z := ⟨_, rfl⟩
        obtain ⟨y, hy⟩ : ∃ z, ys.getD k 0 = z := ⟨_, rfl⟩
        rw [hx, ← hs.cell] at hc
        rw [hy, ← hs.cell] at hd
        have HX : Hid (xs.getD k 0 = x ∧ ys.getD k 0 = y) := ⟨hx, hy⟩
        clear hx hy
        by_cases he : x = y
        · subst he
          go_wp2
          go_region
          go_wp2
          go_roundw
          case rel =>
            refine ⟨k + 1, by omega, by go_num, fun j hj => ?_, hs.trans (Sm.drew _)⟩
            by_cases e : j = k
            · rw [e, HX.out.1, HX.out.2]
            · exact HJ.out j (by omega)
          case measure => simp [intOf]; omega
        · have hne : (x != y) = true := by simp [he]
          go_wp2
          go_region
          go_wp2
          go_ret
          refine ⟨ret_bool ?_, hs.trans (Sm.drew _)⟩
          have : ¬ xs = ys := fun c => he (by rw [← HX.out.1, ← HX.out.2, c])
          simp [this]
      · go_wp2
        go_ret
        refine ⟨ret_bool ?_, hs⟩
        have : xs = ys := getD_ext (by rw [HN.out.1, HN.out.2]) (fun i hi => HJ.out i (by rw [HN.out.1] at hi; omega))
        simp [this]
  · have hb : ((xs.length : Int) != ys.length) = true := by simp; omega
    have hne : ¬ xs = ys := fun c => h0 (by rw [c])
    rw [decide_eq_false hne]
    clear hne h0
    go_enter Tryz.func12, Tryz.ntmps12
    go_wp2
    go_ret
    exact ⟨rfl, Sm.refl _⟩
end
end Go.Proofs.YtadgnafafdfioaaGreatDoor.Sp
namespace Go.Proofs.YtadgnafafdfioaaGreatDoor.Sp
section
set_option maxRecDepth 100000
open Go.RowKit
set_option linter.unusedVariables false

/-- the count of a place, and whether it is one -/
def offs (ss ts : List Int) : Nat := if Rgt ss ∧ Inn ss ts then cnt (nats ss) (nats ts) else 0
end
end Go.Proofs.YtadgnafafdfioaaGreatDoor.Sp
