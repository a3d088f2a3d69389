/-
  THE DOCUMENT's ANSWER FOR WORDS WITH =. Conditions: each theorem's own.
-/
import Derived.Test.YtokfkmncabmmcaaGreatDoorRv9
import Derived.Test.YtokfkmncabmmcaaGreatDoorNam
namespace Go.Proofs.YtokfkmncabmmcaaGreatDoor.Rd
set_option maxRecDepth 100000
open Go.RowKit
set_option linter.unusedVariables false
set_option linter.unusedSimpArgs false

set_option maxHeartbeats 4000000 in
theorem rp_zero (a op : ByteArray) (b off N c : Nat) (w : World) (hl : N ≤ 1000) (h4 : 3 < N) (hcap : N ≤ c) (hcm : c ≤ maxLen) (ha0 : a.size ≤ 1000000) (hc0 : w.cell? ⟨b, off, none⟩ = some (.string a)) (hc1 : w.cell? ⟨b, off + 1, none⟩ = some (.string ⟨#[61]⟩)) (hc2 : w.cell? ⟨b, off + 2, none⟩ = some (.string op)) (d : Nat) (ha : ari op = 0) (hd : knd op = d) :
    Calls Tryz.prog 7 #[.slice (some ⟨b, off, none⟩) N c] w fun e w' => (e = .returned (.tuple #[zv, .bool false])) ∧ Below w.heap.size w w' := by
  have hK := kind_any op
  rw [ha, hd] at hK
  have hl0 : b < w.heap.size := row_lt hc0
  have hB0 : Below w.heap.size w (w.alloc (.cells z7 32)) := (Below.refl _ _).alloc (Nat.le_refl _) _
  go_enter Tryz.func7, Tryz.ntmps7
  go_wp2_with fail
  refine (hK _).mono ?_
  rintro e w1 ⟨rfl, h1⟩
  clear hK
  simp only [Int.natCast_zero]
  have hBw : Below w.heap.size w w1 := hB0.trans (h1.mono (by simp))
  have x0 : w1.cell? ⟨b, off, none⟩ = some (.string a) := cell_below hBw hc0
  have x2 : w1.cell? ⟨b, off + 2, none⟩ = some (.string op) := cell_below hBw hc2
  have HW1 : Hid (Below w.heap.size w w1) := hBw
  obtain ⟨q0, q1, q2, q3, q4, q5, q6, f1, -⟩ := own7 (r := 32) h1
  have hs1 : w.heap.size < w1.heap.size := by have := h1.size; simp at this; omega
  have hbl : b < w1.heap.size := row_lt x0
  have hbn : b ≠ w1.heap.size := Nat.ne_of_lt hbl
  have h2N : (2 : Int) < (N : Int) := by omega
  have h0N : (0 : Int) < (N : Int) := by omega
  clear hc0 hc1 hc2 hBw h1 hB0
  clear x0 x2
  go_wp2
  refine bodyPost_ret (v := .tuple #[zv, .bool false]) ?_ rfl ⟨rfl, ?_⟩
  · simp [results, Tryz.results7, go_sem, q0, q1, q2, q3, q4, q5, q6]
  · iterate 7 refine Below.setCell ?_ (by simp) _
    exact HW1.out
set_option maxHeartbeats 4000000 in
theorem rp_name1 (a op : ByteArray) (b off N c : Nat) (w : World) (hl : N ≤ 1000) (h4 : 3 < N) (hcap : N ≤ c) (hcm : c ≤ maxLen) (ha0 : a.size ≤ 1000000) (hc0 : w.cell? ⟨b, off, none⟩ = some (.string a)) (hc1 : w.cell? ⟨b, off + 1, none⟩ = some (.string ⟨#[61]⟩)) (hc2 : w.cell? ⟨b, off + 2, none⟩ = some (.string op)) (d : Nat) (ha : ari op = 1) (hd : knd op = d) (hs : 3 + 1 ≤ N) (hn : nmb a = false) :
    Calls Tryz.prog 7 #[.slice (some ⟨b, off, none⟩) N c] w fun e w' => (e = .returned (.tuple #[zv, .bool false])) ∧ Below w.heap.size w w' := by
  have hN := fun w => Lx.refName_any a w ha0
  unfold nmb at hn
  rw [hn] at hN
  have hK := kind_any op
  rw [ha, hd] at hK
  have hl0 : b < w.heap.size := row_lt hc0
  have hB0 : Below w.heap.size w (w.alloc (.cells z7 32)) := (Below.refl _ _).alloc (Nat.le_refl _) _
  go_enter Tryz.func7, Tryz.ntmps7
  go_wp2_with fail
  refine (hK _).mono ?_
  rintro e w1 ⟨rfl, h1⟩
  clear hK
  simp only [Int.natCast_one]
  have hBw : Below w.heap.size w w1 := hB0.trans (h1.mono (by simp))
  have x0 : w1.cell? ⟨b, off, none⟩ = some (.string a) := cell_below hBw hc0
  have x2 : w1.cell? ⟨b, off + 2, none⟩ = some (.string op) := cell_below hBw hc2
  have HW1 : Hid (Below w.heap.size w w1) := hBw
  obtain ⟨q0, q1, q2, q3, q4, q5, q6, f1, -⟩ := own7 (r := 32) h1
  have hs1 : w.heap.size < w1.heap.size := by have := h1.size; simp at this; omega
  have hbl : b < w1.heap.size := row_lt x0
  have hbn : b ≠ w1.heap.size := Nat.ne_of_lt hbl
  have h2N : (2 : Int) < (N : Int) := by omega
  have h0N : (0 : Int) < (N : Int) := by omega
  clear hc0 hc1 hc2 hBw h1 hB0
  go_wp2_with fail
  refine (hN _).mono ?_
  rintro e w2 ⟨rfl, rfl⟩
  clear x0 x2 hN
  go_wp2
  refine bodyPost_ret (v := .tuple #[zv, .bool false]) ?_ rfl ⟨rfl, ?_⟩
  · simp [results, Tryz.results7, go_sem, q0, q1, q2, q3, q4, q5, q6]
  · iterate 7 refine Below.setCell ?_ (by simp) _
    exact HW1.out
set_option maxHeartbeats 4000000 in
theorem rp_short2 (a op : ByteArray) (b off N c : Nat) (w : World) (hl : N ≤ 1000) (h4 : 3 < N) (hcap : N ≤ c) (hcm : c ≤ maxLen) (ha0 : a.size ≤ 1000000) (hc0 : w.cell? ⟨b, off, none⟩ = some (.string a)) (hc1 : w.cell? ⟨b, off + 1, none⟩ = some (.string ⟨#[61]⟩)) (hc2 : w.cell? ⟨b, off + 2, none⟩ = some (.string op)) (d : Nat) (ha : ari op = 2) (hd : knd op = d) (hs : N < 3 + 2) :
    Calls Tryz.prog 7 #[.slice (some ⟨b, off, none⟩) N c] w fun e w' => (e = .returned (.tuple #[zv, .bool false])) ∧ Below w.heap.size w w' := by
  have hK := kind_any op
  rw [ha, hd] at hK
  have hl0 : b < w.heap.size := row_lt hc0
  have hB0 : Below w.heap.size w (w.alloc (.cells z7 32)) := (Below.refl _ _).alloc (Nat.le_refl _) _
  go_enter Tryz.func7, Tryz.ntmps7
  go_wp2_with fail
  refine (hK _).mono ?_
  rintro e w1 ⟨rfl, h1⟩
  clear hK
  simp only [Int.cast_ofNat_Int]
  have hBw : Below w.heap.size w w1 := hB0.trans (h1.mono (by simp))
  have x0 : w1.cell? ⟨b, off, none⟩ = some (.string a) := cell_below hBw hc0
  have x2 : w1.cell? ⟨b, off + 2, none⟩ = some (.string op) := cell_below hBw hc2
  have HW1 : Hid (Below w.heap.size w w1) := hBw
  obtain ⟨q0, q1, q2, q3, q4, q5, q6, f1, -⟩ := own7 (r := 32) h1
  have hs1 : w.heap.size < w1.heap.size := by have := h1.size; simp at this; omega
  have hbl : b < w1.heap.size := row_lt x0
  have hbn : b ≠ w1.heap.size := Nat.ne_of_lt hbl
  have h2N : (2 : Int) < (N : Int) := by omega
  have h0N : (0 : Int) < (N : Int) := by omega
  clear hc0 hc1 hc2 hBw h1 hB0
  clear x0 x2
  go_wp2
  refine bodyPost_ret (v := .tuple #[zv, .bool false]) ?_ rfl ⟨rfl, ?_⟩
  · simp [results, Tryz.results7, go_sem, q0, q1, q2, q3, q4, q5, q6]
  · iterate 7 refine Below.setCell ?_ (by simp) _
    exact HW1.out
set_option maxHeartbeats 4000000 in
theorem rp_name2 (a op : ByteArray) (b off N c : Nat) (w : World) (hl : N ≤ 1000) (h4 : 3 < N) (hcap : N ≤ c) (hcm : c ≤ maxLen) (ha0 : a.size ≤ 1000000) (hc0 : w.cell? ⟨b, off, none⟩ = some (.string a)) (hc1 : w.cell? ⟨b, off + 1, none⟩ = some (.string ⟨#[61]⟩)) (hc2 : w.cell? ⟨b, off + 2, none⟩ = some (.string op)) (d : Nat) (ha : ari op = 2) (hd : knd op = d) (hs : 3 + 2 ≤ N) (hn : nmb a = false) :
    Calls Tryz.prog 7 #[.slice (some ⟨b, off, none⟩) N c] w fun e w' => (e = .returned (.tuple #[zv, .bool false])) ∧ Below w.heap.size w w' := by
  have hN := fun w => Lx.refName_any a w ha0
  unfold nmb at hn
  rw [hn] at hN
  have hK := kind_any op
  rw [ha, hd] at hK
  have hl0 : b < w.heap.size := row_lt hc0
  have hB0 : Below w.heap.size w (w.alloc (.cells z7 32)) := (Below.refl _ _).alloc (Nat.le_refl _) _
  go_enter Tryz.func7, Tryz.ntmps7
  go_wp2_with fail
  refine (hK _).mono ?_
  rintro e w1 ⟨rfl, h1⟩
  clear hK
  simp only [Int.cast_ofNat_Int]
  have hBw : Below w.heap.size w w1 := hB0.trans (h1.mono (by simp))
  have x0 : w1.cell? ⟨b, off, none⟩ = some (.string a) := cell_below hBw hc0
  have x2 : w1.cell? ⟨b, off + 2, none⟩ = some (.string op) := cell_below hBw hc2
  have HW1 : Hid (Below w.heap.size w w1) := hBw
  obtain ⟨q0, q1, q2, q3, q4, q5, q6, f1, -⟩ := own7 (r := 32) h1
  have hs1 : w.heap.size < w1.heap.size := by have := h1.size; simp at this; omega
  have hbl : b < w1.heap.size := row_lt x0
  have hbn : b ≠ w1.heap.size := Nat.ne_of_lt hbl
  have h2N : (2 : Int) < (N : Int) := by omega
  have h0N : (0 : Int) < (N : Int) := by omega
  clear hc0 hc1 hc2 hBw h1 hB0
  go_wp2_with fail
  refine (hN _).mono ?_
  rintro e w2 ⟨rfl, rfl⟩
  clear x0 x2 hN
  go_wp2
  refine bodyPost_ret (v := .tuple #[zv, .bool false]) ?_ rfl ⟨rfl, ?_⟩
  · simp [results, Tryz.results7, go_sem, q0, q1, q2, q3, q4, q5, q6]
  · iterate 7 refine Below.setCell ?_ (by simp) _
    exact HW1.out
end Go.Proofs.YtokfkmncabmmcaaGreatDoor.Rd
