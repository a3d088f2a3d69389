/-
  ROWS OF NUMBERS IN MEMORY; the smallest calls. Conditions: each theorem's own.
-/
import Derived.Test.YtadgnafafdfioaaGreatDoorNm
import Derived.WalkKit
import Derived.WalkSpells
import Derived.WalkLawsBesides
import Derived.Test.YtadgnafafdfioaaGreatDoorRows
namespace Go.Proofs.YtadgnafafdfioaaGreatDoor
section
set_option maxRecDepth 100000
open Go.RowKit Nm
set_option linter.unusedVariables false

/-- n cells of a block, from a place on, hold these numbers -/
def Rw (w : World) (b off : Nat) (f : Nat → Nat) (n : Nat) : Prop := ∀ i, i < n → w.cell? ⟨b, off + i, none⟩ = some (.int .i64 (f i : Nat))

/-- the first n cells of a block hold these numbers, and may be written -/
structure Ow (w : World) (k : IntKind) (b : Nat) (f : Nat → Nat) (n : Nat) : Prop where
  cell : ∀ i, i < n → w.cell? ⟨b, i, none⟩ = some (.int k (f i : Nat))
  frz : ∀ i, w.frozen? ⟨b, i, none⟩ = false
  lt : b < w.heap.size

/-- cells of one block have been written, and nothing else has turned -/
structure Wr (w w' : World) (b : Nat) : Prop where
  os : w'.os = w.os
  tape : w'.tape = w.tape
  output : w'.output = w.output
  size : w'.heap.size = w.heap.size
  block : ∀ k, k ≠ b → w'.heap[k]? = w.heap[k]?

theorem Wr.refl (w : World) (b : Nat) : Wr w w b := ⟨rfl, rfl, rfl, rfl, fun _ _ => rfl⟩
theorem Wr.trans {w u v : World} {b : Nat} (h : Wr w u b) (k : Wr u v b) : Wr w v b :=
  ⟨k.os.trans h.os, k.tape.trans h.tape, k.output.trans h.output, k.size.trans h.size, fun i hi => (k.block i hi).trans (h.block i hi)⟩
theorem Wr.setCell {w u : World} {b : Nat} (h : Wr w u b) (j : Nat) (v : Value) : Wr w (u.setCell ⟨b, j, none⟩ v) b :=
  h.trans ⟨rfl, rfl, rfl, by simp [World.setCell], fun k hk => Below.heap_setCell _ _ _ _ hk⟩
theorem Wr.drew {w u : World} {b : Nat} (h : Wr w u b) : Wr w u.drew b := ⟨h.os, h.tape, h.output, h.size, h.block⟩
theorem Wr.below {w u : World} {b B : Nat} (h : Wr w u b) (hB : B ≤ b) : Below B w u :=
  ⟨h.os, h.tape, h.output, Nat.le_of_eq h.size.symm, fun k hk => h.block k (by omega)⟩

theorem Ow.store {w : World} {k : IntKind} {b n : Nat} {f : Nat → Nat} (h : Ow w k b f n) {j : Nat} (hj : j < n) (v : Nat) : Ow (w.setCell ⟨b, j, none⟩ (.int k (v : Nat))) k b (up f j v) n := by
  refine ⟨fun i hi => ?_, fun i => ?_, ?_⟩
  · by_cases e : i = j
    · subst e; rw [World.cell?_setCell_same _ _ _ (h.cell i hi), up_same]
    · rw [World.cell?_setCell_other _ _ _ _ (by intro x; injection x with _ h2; exact e h2.symm), h.cell i hi, up_other f v e]
  · rw [World.frozen?_setCell]; exact h.frz i
  · simpa [World.setCell] using h.lt

theorem Ow.congr {w : World} {k : IntKind} {b n : Nat} {f g : Nat → Nat} (h : Ow w k b f n) (e : ∀ i, i < n → f i = g i) : Ow w k b g n :=
  ⟨fun i hi => by rw [h.cell i hi, e i hi], h.frz, h.lt⟩

theorem Ow.drew {w : World} {k : IntKind} {b n : Nat} {f : Nat → Nat} (h : Ow w k b f n) : Ow w.drew k b f n := ⟨h.cell, h.frz, h.lt⟩

theorem Ow.below {w w' : World} {k : IntKind} {b n B : Nat} {f : Nat → Nat} (h : Ow w k b f n) (hb : Below B w w') (hB : b < B) : Ow w' k b f n :=
  ⟨fun i hi => by rw [hb.cell hB]; exact h.cell i hi, fun i => by rw [hb.frozen hB]; exact h.frz i, Nat.lt_of_lt_of_le h.lt hb.size⟩

theorem Ow.kept {w w' : World} {k : IntKind} {b c n : Nat} {f : Nat → Nat} (h : Ow w k b f n) (hw : Wr w w' c) (hc : b ≠ c) : Ow w' k b f n :=
  ⟨fun i hi => by rw [World.cell?_of_block (hw.block b hc)]; exact h.cell i hi, fun i => by rw [World.frozen?_of_block (hw.block b hc)]; exact h.frz i, by rw [hw.size]; exact h.lt⟩

theorem Ow.rw {w : World} {b n : Nat} {f : Nat → Nat} (h : Ow w .i64 b f n) : Rw w b 0 f n := fun i hi => by rw [Nat.zero_add]; exact h.cell i hi

theorem Ow.rwAt {w : World} {b n : Nat} {f : Nat → Nat} (h : Ow w .i64 b f n) {off m : Nat} (hm : off + m ≤ n) : Rw w b off (fun i => f (off + i)) m := fun i hi => h.cell (off + i) (by omega)

theorem Rw.below {w w' : World} {b off n B : Nat} {f : Nat → Nat} (h : Rw w b off f n) (hb : Below B w w') (hB : b < B) : Rw w' b off f n :=
  fun i hi => by rw [hb.cell (p := ⟨b, off + i, none⟩) hB]; exact h i hi

theorem Rw.kept {w w' : World} {b c off n : Nat} {f : Nat → Nat} (h : Rw w b off f n) (hw : Wr w w' c) (hc : b ≠ c) : Rw w' b off f n :=
  fun i hi => by rw [World.cell?_of_block (a := ⟨b, off + i, none⟩) (hw.block b hc)]; exact h i hi

theorem Rw.mono {w : World} {b off n m : Nat} {f : Nat → Nat} (h : Rw w b off f n) (hm : m ≤ n) : Rw w b off f m := fun i hi => h i (by omega)

theorem Rw.congr {w : World} {b off n : Nat} {f g : Nat → Nat} (h : Rw w b off f n) (e : ∀ i, i < n → f i = g i) : Rw w b off g n :=
  fun i hi => by rw [h i hi, e i hi]

theorem cell_lt {w : World} {a : Addr} {v : Value} (h : w.cell? a = some v) : a.block < w.heap.size := by
  rcases Nat.lt_or_ge a.block w.heap.size with c | c
  · exact c
  · simp [World.cell?, Array.getElem?_eq_none c] at h

theorem Rw.below' {w w' : World} {b off n : Nat} {f : Nat → Nat} (h : Rw w b off f n) (hb : Below w.heap.size w w') : Rw w' b off f n :=
  fun i hi => by rw [hb.cell (p := ⟨b, off + i, none⟩) (cell_lt (h i hi))]; exact h i hi

/-- a block of int64s that was made, as large as this -/
def Shp (w : World) (g cap : Nat) : Prop := ∃ cur, w.heap[g]? = some (.cells cur 2 (0, 0)) ∧ cur.size = cap ∧ cap ≤ maxLen

theorem Shp.below {w w' : World} {g cap B : Nat} (h : Shp w g cap) (hb : Below B w w') (hB : g < B) : Shp w' g cap := by
  obtain ⟨cur, h1, h2⟩ := h
  exact ⟨cur, by rw [hb.block g hB]; exact h1, h2⟩
theorem Shp.kept {w w' : World} {g cap c : Nat} (h : Shp w g cap) (hw : Wr w w' c) (hc : g ≠ c) : Shp w' g cap := by
  obtain ⟨cur, h1, h2⟩ := h
  exact ⟨cur, by rw [hw.block g hc]; exact h1, h2⟩
theorem Shp.heap {w w' : World} {g cap : Nat} (h : Shp w g cap) (e : w'.heap = w.heap) : Shp w' g cap := by
  obtain ⟨cur, h1, h2⟩ := h
  exact ⟨cur, by rw [e]; exact h1, h2⟩
theorem Shp.drew {w : World} {g cap : Nat} (h : Shp w g cap) : Shp w.drew g cap := h.heap rfl
theorem Shp.lt {w : World} {g cap : Nat} (h : Shp w g cap) : g < w.heap.size := by
  obtain ⟨cur, h1, _⟩ := h
  rcases Nat.lt_or_ge g w.heap.size with c | c
  · exact c
  · rw [Array.getElem?_eq_none c] at h1; cases h1
theorem Shp.of_own {w : World} {base n cap g : Nat} {xs : List Value} (h : w.ownsRow base 2 1 (.slice (some ⟨g, 0, none⟩) n cap) n xs) : Shp w g cap := by
  rcases h.2 with ⟨h1, _⟩ | ⟨g', cap', cur, h1, _, h2, _, h3, h4, _⟩
  · simp at h1
  · simp only [Value.slice.injEq, Option.some.injEq, Addr.mk.injEq, and_true, true_and] at h1
    obtain ⟨rfl, rfl⟩ := h1
    exact ⟨cur, h2, by omega, h3⟩
theorem Shp.setCell {w : World} {g cap : Nat} (h : Shp w g cap) (j : Nat) (v : Value) : Shp (w.setCell ⟨g, j, none⟩ v) g cap := by
  obtain ⟨cur, h1, h2, h3⟩ := h
  refine ⟨cur.setIfInBounds j v, ?_, by simpa using h2, h3⟩
  simp [World.setCell, Array.getElem?_modify, h1]

/-- what 'make' leaves -/
theorem Ow.of_own {w : World} {base e n cap g : Nat} {k : IntKind} (h : w.ownsRow base e 1 (.slice (some ⟨g, 0, none⟩) n cap) n (madeCells #[Value.int k 0] n).toList) : Ow w k g (fun _ => 0) n := by
  refine ⟨fun i hi => ?_, fun i => h.frozenAt i, (h.lt g rfl).2⟩
  rw [h.cellAt i (by omega), toList_madeCells_one]
  simp [hi]
end
end Go.Proofs.YtadgnafafdfioaaGreatDoor
namespace Go.Proofs.YtadgnafafdfioaaGreatDoor
section
set_option maxRecDepth 100000
open Go.RowKit Nm
set_option linter.unusedVariables false

theorem tmod_neg (n : Int) (h : n < 0) : n.tmod 1000000000 = -((-n) % 1000000000) ∧ n.tdiv 1000000000 = -((-n) / 1000000000) := by
  have a := Int.neg_tmod (-n) 1000000000
  have b := Int.neg_tdiv (-n) 1000000000
  rw [Int.neg_neg] at a b
  rw [a, b, Int.tmod_eq_emod_of_nonneg (by omega), Int.tdiv_eq_ediv_of_nonneg (by omega)]
  exact ⟨rfl, rfl⟩

theorem ret2_int {k : IntKind} {a b c d : Int} (h : a = c) (h' : b = d) : Ending.returned (.tuple #[.int k a, .int k b]) = .returned (.tuple #[.int k c, .int k d]) := by rw [h, h']
theorem ret_int {k : IntKind} {a b : Int} (h : a = b) : Ending.returned (.int k a) = .returned (.int k b) := by rw [h]

set_option maxHeartbeats 400000 in
theorem split_any (n : Int) (w : World) (h1 : -4000000000000000000 ≤ n) (h2 : n ≤ 4000000000000000000) :
    Calls Tryz.prog 127 #[.int .i64 n] w fun e w' => e = .returned (.tuple #[.int .i64 (n % 1000000000), .int .i64 (n / 1000000000)]) ∧ w' = w := by
  by_cases h : 0 ≤ n
  · go_enter Tryz.func127, Tryz.ntmps127
    go_wp2
    all_goals go_ret2
    all_goals exact ⟨rfl, rfl⟩
  · have ht := tmod_neg n (by omega)
    have hb1 : -1000000000 < n.tmod 1000000000 := by omega
    have hb2 : n.tmod 1000000000 ≤ 0 := by omega
    have hb3 : -4000000000 ≤ n.tdiv 1000000000 := by omega
    have hb4 : n.tdiv 1000000000 ≤ 0 := by omega
    have H : Hid (n.tmod 1000000000 = -((-n) % 1000000000) ∧ n.tdiv 1000000000 = -((-n) / 1000000000)) := ht
    clear ht
    go_enter Tryz.func127, Tryz.ntmps127
    go_wp2
    · have hx : n.tmod 1000000000 < 0 := by assumption
      go_ret2
      have := H.out
      exact ⟨ret2_int (by omega) (by omega), rfl⟩
    · have hx : 0 ≤ n.tmod 1000000000 := by assumption
      go_ret2
      have := H.out
      exact ⟨ret2_int (by omega) (by omega), rfl⟩

set_option maxHeartbeats 400000 in
theorem at_in (b off len cap i : Nat) (f : Nat → Nat) (w : World) (hl : len ≤ 50000000) (hR : Rw w b off f len) (hi : i < len) :
    Calls Tryz.prog 128 #[.slice (some ⟨b, off, none⟩) len cap, .int .i64 i] w fun e w' => e = .returned (.int .i64 (f i : Nat)) ∧ w' = w := by
  have hc := hR i hi
  go_enter Tryz.func128, Tryz.ntmps128
  go_wp2
  go_ret
  exact ⟨rfl, rfl⟩

set_option maxHeartbeats 400000 in
theorem at_out (ao : Option Addr) (len cap i : Nat) (w : World) (hl : len ≤ 50000000) (hi : ¬ i < len) :
    Calls Tryz.prog 128 #[.slice ao len cap, .int .i64 i] w fun e w' => e = .returned (.int .i64 0) ∧ w' = w := by
  go_enter Tryz.func128, Tryz.ntmps128
  go_wp2
  go_ret
  exact ⟨rfl, rfl⟩

theorem at_any (b off len cap i : Nat) (f : Nat → Nat) (w : World) (hl : len ≤ 50000000) (hR : Rw w b off f len) :
    Calls Tryz.prog 128 #[.slice (some ⟨b, off, none⟩) len cap, .int .i64 i] w fun e w' => e = .returned (.int .i64 (ext f len i : Nat)) ∧ w' = w := by
  by_cases h : i < len
  · refine (at_in b off len cap i f w hl hR h).mono ?_
    rintro e w' ⟨rfl, rfl⟩
    simp [ext, h]
  · refine (at_out (some ⟨b, off, none⟩) len cap i w hl h).mono ?_
    rintro e w' ⟨rfl, rfl⟩
    simp [ext, h]

set_option maxHeartbeats 400000 in
theorem trim_any (b off len cap : Nat) (f : Nat → Nat) (w : World) (hl : len ≤ 50000000) (hlc : len ≤ cap) (hcap : cap ≤ 100000000) (hR : Rw w b off f len) :
    Calls Tryz.prog 117 #[.slice (some ⟨b, off, none⟩) len cap] w fun e w' => (∃ n, n ≤ len ∧ (∀ i, n ≤ i → i < len → f i = 0) ∧ (n = 0 ∨ f (n - 1) ≠ 0) ∧ e = .returned (.slice (some ⟨b, off, none⟩) n cap)) ∧ w' = w := by
  go_enter Tryz.func117, Tryz.ntmps117
  go_wp2
  go_loop [3] (fun i => ∃ k : Nat, k ≤ len ∧ i = .int .i64 k ∧ (∀ i, k ≤ i → i < len → f i = 0)) (fun i => (intOf i).toNat)
  case atStart => exact ⟨len, Nat.le_refl _, rfl, fun i a b => by omega⟩
  case round =>
    obtain ⟨k, hk, rfl, hz⟩ := hrel
    by_cases h0 : 0 < k
    · have hc := hR (k - 1) (by omega)
      by_cases hf : f (k - 1) = 0
      · rw [hf] at hc
        go_wp2
        go_round
        case rel =>
          refine ⟨k - 1, by omega, by go_num, fun i a b => ?_⟩
          by_cases e : i = k - 1
          · rw [e]; exact hf
          · exact hz i (by omega) b
        case measure => simp [intOf]; omega
      · have hne : (((f (k - 1) : Nat) : Int) == 0) = false := by simp [hf]
        go_wp2
        go_ret
        exact ⟨⟨k, hk, hz, Or.inr hf, rfl⟩, rfl⟩
    · go_wp2
      go_ret
      exact ⟨⟨k, hk, hz, Or.inl (by omega), rfl⟩, rfl⟩

theorem take_snoc (s : ByteArray) (k : Nat) (h : k < s.size) : s.data.toList.take (k + 1) = s.data.toList.take k ++ [s[k]] := by
  rw [List.take_succ_eq_append_getElem (by simpa using h)]; rfl

theorem mem_at (s : ByteArray) (k : Nat) (h : k < s.size) : s[k] ∈ s.data.toList := by
  have : s[k] = s.data.toList[k]'(by simpa using h) := rfl
  rw [this]; exact List.getElem_mem _

set_option maxHeartbeats 400000 in
theorem parseLimb_any (s : ByteArray) (w : World) (hs : s.size ≤ 9) (hd : Dg s.data.toList) :
    Calls Tryz.prog 116 #[.string s] w fun e w' => e = .returned (.int .i64 (dv s.data.toList : Nat)) ∧ w' = w := by
  go_enter Tryz.func116, Tryz.ntmps116
  go_wp2
  go_loop [3, 7] (fun n i => ∃ k : Nat, k ≤ s.size ∧ i = .int .i64 k ∧ n = .int .i64 (dv (s.data.toList.take k) : Nat)) (fun _ i => s.size - (intOf i).toNat)
  case atStart => exact ⟨0, Nat.zero_le _, rfl, rfl⟩
  case round =>
    obtain ⟨k, hk, rfl, rfl⟩ := hrel
    by_cases hlt : k < s.size
    · have hl : (s.data.toList.take k).length ≤ k := List.length_take_le _ _
      have h1 := dv_lt (l := s.data.toList.take k) (fun c hc => hd c (List.mem_of_mem_take hc))
      have h2 : 10 ^ (s.data.toList.take k).length ≤ 10 ^ 8 := Nat.pow_le_pow_right (by omega) (by omega)
      have hbd : dv (s.data.toList.take k) < 100000000 := by omega
      have hdig := hd _ (mem_at s k hlt)
      have hd1 : 48 ≤ s[k].toNat := hdig.1
      have hd2 : s[k].toNat ≤ 57 := hdig.2
      have hsn := dv_snoc (s.data.toList.take k) s[k]
      rw [← take_snoc s k hlt] at hsn
      have HS : Hid (dv (s.data.toList.take (k + 1)) = dv (s.data.toList.take k) * 10 + (s[k].toNat - 48)) := hsn
      clear hsn h1 h2 hl hdig
      go_wp2
      go_round
      case rel => exact ⟨k + 1, by omega, by go_num, by rw [HS.out]; congr 1; omega⟩
      case measure => simp [intOf]; omega
    · go_wp2
      go_ret
      exact ⟨ret_int (by rw [List.take_of_length_le (by simp; omega)]), rfl⟩
end
end Go.Proofs.YtadgnafafdfioaaGreatDoor
