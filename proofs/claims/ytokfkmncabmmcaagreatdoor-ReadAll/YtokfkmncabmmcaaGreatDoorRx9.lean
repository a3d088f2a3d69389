/-
  THE DOCUMENT's ANSWER FOR WORDS WITH =: the names. Conditions: each theorem's own.
-/
import Derived.Test.YtokfkmncabmmcaaGreatDoorRw9
import Derived.Test.YtokfkmncabmmcaaGreatDoorNam
namespace Go.Proofs.YtokfkmncabmmcaaGreatDoor.Rd
set_option maxRecDepth 100000
open Go.RowKit
set_option linter.unusedVariables false
set_option linter.unusedSimpArgs false

set_option maxHeartbeats 4000000 in
theorem rp_args1 (a op : ByteArray) (b off N c : Nat) (w : World) (hl : N ≤ 1000) (h4 : 3 < N) (hcap : N ≤ c) (hcm : c ≤ maxLen) (ha0 : a.size ≤ 1000000) (hc0 : w.cell? ⟨b, off, none⟩ = some (.string a)) (hc1 : w.cell? ⟨b, off + 1, none⟩ = some (.string ⟨#[61]⟩)) (hc2 : w.cell? ⟨b, off + 2, none⟩ = some (.string op)) (d : Nat) (ha : ari op = 1) (hd : knd op = d) (hs : 3 + 1 ≤ N) (hn : nmb a = true) (xs : List ByteArray) (o3 : Nat) (ho3 : (if c = 3 then some (⟨b, off, none⟩ : Addr) else some ⟨b, off + 3, none⟩) = some ⟨b, o3, none⟩) (hargs : ∀ k, k < 1 → w.cell? ⟨b, o3 + k, none⟩ = some (.string (xs.getD k em))) (hxs : ∀ k, k < 1 → (xs.getD k em).size ≤ 1000000) (hbad : ¬ ∀ k, k < 1 → nmb (xs.getD k em) = true) :
    Calls Tryz.prog 7 #[.slice (some ⟨b, off, none⟩) N c] w fun e w' => (e = .returned (.tuple #[zv, .bool false])) ∧ Below w.heap.size w w' := by
  have hN := fun w => Lx.refName_any a w ha0
  unfold nmb at hn
  rw [hn] at hN
  have HX : Hid _ := hxs
  have hg : ∀ v, Below w.heap.size w v → ∀ k, k < 1 → v.cell? ⟨b, o3 + k, none⟩ = some (.string (xs.getD k em)) := fun v hv k hk => cell_below hv (hargs k hk)
  have HG : Hid _ := hg
  clear hg hxs hargs
  have hnm : Hid _ := hbad
  clear hbad
  have hK := kind_any op
  rw [ha, hd] at hK
  have hl0 : b < w.heap.size := row_lt hc0
  have hB0 : Below w.heap.size w (w.alloc (.cells z7 32)) := (Below.refl _ _).alloc (Nat.le_refl _) _
  go_enter Tryz.func7, Tryz.ntmps7
  go_wp2_with fail
  refine (hK _).mono ?_
  rintro e w1 ⟨rfl, h1⟩
  clear hK
  simp only [Int.natCast_one]
  have hBw : Below w.heap.size w w1 := hB0.trans (h1.mono (by simp))
  have x0 : w1.cell? ⟨b, off, none⟩ = some (.string a) := cell_below hBw hc0
  have x2 : w1.cell? ⟨b, off + 2, none⟩ = some (.string op) := cell_below hBw hc2
  have HW1 : Hid (Below w.heap.size w w1) := hBw
  obtain ⟨q0, q1, q2, q3, q4, q5, q6, f1, -⟩ := own7 (r := 32) h1
  have hs1 : w.heap.size < w1.heap.size := by have := h1.size; simp at this; omega
  have hbl : b < w1.heap.size := row_lt x0
  have hbn : b ≠ w1.heap.size := Nat.ne_of_lt hbl
  have h2N : (2 : Int) < (N : Int) := by omega
  have h0N : (0 : Int) < (N : Int) := by omega
  clear hc0 hc1 hc2 hBw h1 hB0
  go_wp2_with fail
  refine (hN _).mono ?_
  rintro e w2 ⟨rfl, rfl⟩
  clear hN
  go_wp2_with fail
  go_region
  clear x0 x2
  go_wp2_with fail
  go_loop [7] (fun i => ∃ k : Nat, k ≤ 1 ∧ i = .int .i64 (k : Int) ∧ ∀ j, j < k → nmb (xs.getD j em) = true) (fun i => 1 - (intOf i).toNat)
  case atStart => exact ⟨0, by omega, rfl, fun j hj => by omega⟩
  case round =>
    obtain ⟨k, hk, rfl, hj⟩ := hrel
    have HJ : Hid _ := hj
    clear hj
    by_cases h : k < 1
    · have hc := HG.out w2 HW1.out k h
      have hsz := HX.out k h
      obtain ⟨x, hx⟩ : ∃ z, xs.getD k em = z := ⟨_, rfl⟩
      rw [hx] at hc hsz
      have HXk : Hid _ := hx
      clear hx
      go_wp2_with fail
      refine (Lx.refName_any x _ hsz).mono ?_
      rintro e w3 ⟨rfl, rfl⟩
      obtain ⟨r, hr⟩ : ∃ r, Lx.nm x.data.toList = r := ⟨_, rfl⟩
      have HRa : Hid (nmb x = r) := hr
      rw [hr]
      clear hr
      cases r with
      | true =>
        go_wp2
        go_round
        case rel =>
          refine ⟨k + 1, by omega, by go_num, fun j hj => ?_⟩
          by_cases e : j = k
          · rw [e, HXk.out]; exact HRa.out
          · exact HJ.out j (by omega)
        case measure => simp [intOf]; omega
      | false =>
        go_wp2
        refine bodyPost_ret (v := .tuple #[zv, .bool false]) ?_ rfl ⟨rfl, ?_⟩
        · simp [results, Tryz.results7, go_sem, hs1, Nat.ne_of_lt hs1, q0, q1, q2, q3, q4, q5, q6]
        · refine Below.drew (Below.alloc ?_ (by have := HW1.out.size; simp; omega) _)
          iterate 7 refine Below.setCell ?_ (by simp) _
          exact HW1.out
    · obtain rfl : k = 1 := by omega
      exfalso
      exact hnm.out HJ.out
set_option maxHeartbeats 4000000 in
theorem rp_args2 (a op : ByteArray) (b off N c : Nat) (w : World) (hl : N ≤ 1000) (h4 : 3 < N) (hcap : N ≤ c) (hcm : c ≤ maxLen) (ha0 : a.size ≤ 1000000) (hc0 : w.cell? ⟨b, off, none⟩ = some (.string a)) (hc1 : w.cell? ⟨b, off + 1, none⟩ = some (.string ⟨#[61]⟩)) (hc2 : w.cell? ⟨b, off + 2, none⟩ = some (.string op)) (d : Nat) (ha : ari op = 2) (hd : knd op = d) (hs : 3 + 2 ≤ N) (hn : nmb a = true) (xs : List ByteArray) (o3 : Nat) (ho3 : (if c = 3 then some (⟨b, off, none⟩ : Addr) else some ⟨b, off + 3, none⟩) = some ⟨b, o3, none⟩) (hargs : ∀ k, k < 2 → w.cell? ⟨b, o3 + k, none⟩ = some (.string (xs.getD k em))) (hxs : ∀ k, k < 2 → (xs.getD k em).size ≤ 1000000) (hbad : ¬ ∀ k, k < 2 → nmb (xs.getD k em) = true) :
    Calls Tryz.prog 7 #[.slice (some ⟨b, off, none⟩) N c] w fun e w' => (e = .returned (.tuple #[zv, .bool false])) ∧ Below w.heap.size w w' := by
  have hN := fun w => Lx.refName_any a w ha0
  unfold nmb at hn
  rw [hn] at hN
  have HX : Hid _ := hxs
  have hg : ∀ v, Below w.heap.size w v → ∀ k, k < 2 → v.cell? ⟨b, o3 + k, none⟩ = some (.string (xs.getD k em)) := fun v hv k hk => cell_below hv (hargs k hk)
  have HG : Hid _ := hg
  clear hg hxs hargs
  have hnm : Hid _ := hbad
  clear hbad
  have hK := kind_any op
  rw [ha, hd] at hK
  have hl0 : b < w.heap.size := row_lt hc0
  have hB0 : Below w.heap.size w (w.alloc (.cells z7 32)) := (Below.refl _ _).alloc (Nat.le_refl _) _
  go_enter Tryz.func7, Tryz.ntmps7
  go_wp2_with fail
  refine (hK _).mono ?_
  rintro e w1 ⟨rfl, h1⟩
  clear hK
  simp only [Int.cast_ofNat_Int]
  have hBw : Below w.heap.size w w1 := hB0.trans (h1.mono (by simp))
  have x0 : w1.cell? ⟨b, off, none⟩ = some (.string a) := cell_below hBw hc0
  have x2 : w1.cell? ⟨b, off + 2, none⟩ = some (.string op) := cell_below hBw hc2
  have HW1 : Hid (Below w.heap.size w w1) := hBw
  obtain ⟨q0, q1, q2, q3, q4, q5, q6, f1, -⟩ := own7 (r := 32) h1
  have hs1 : w.heap.size < w1.heap.size := by have := h1.size; simp at this; omega
  have hbl : b < w1.heap.size := row_lt x0
  have hbn : b ≠ w1.heap.size := Nat.ne_of_lt hbl
  have h2N : (2 : Int) < (N : Int) := by omega
  have h0N : (0 : Int) < (N : Int) := by omega
  clear hc0 hc1 hc2 hBw h1 hB0
  go_wp2_with fail
  refine (hN _).mono ?_
  rintro e w2 ⟨rfl, rfl⟩
  clear hN
  go_wp2_with fail
  go_region
  clear x0 x2
  go_wp2_with fail
  go_loop [7] (fun i => ∃ k : Nat, k ≤ 2 ∧ i = .int .i64 (k : Int) ∧ ∀ j, j < k → nmb (xs.getD j em) = true) (fun i => 2 - (intOf i).toNat)
  case atStart => exact ⟨0, by omega, rfl, fun j hj => by omega⟩
  case round =>
    obtain ⟨k, hk, rfl, hj⟩ := hrel
    have HJ : Hid _ := hj
    clear hj
    by_cases h : k < 2
    · have hc := HG.out w2 HW1.out k h
      have hsz := HX.out k h
      obtain ⟨x, hx⟩ : ∃ z, xs.getD k em = z := ⟨_, rfl⟩
      rw [hx] at hc hsz
      have HXk : Hid _ := hx
      clear hx
      go_wp2_with fail
      refine (Lx.refName_any x _ hsz).mono ?_
      rintro e w3 ⟨rfl, rfl⟩
      obtain ⟨r, hr⟩ : ∃ r, Lx.nm x.data.toList = r := ⟨_, rfl⟩
      have HRa : Hid (nmb x = r) := hr
      rw [hr]
      clear hr
      cases r with
      | true =>
        go_wp2
        go_round
        case rel =>
          refine ⟨k + 1, by omega, by go_num, fun j hj => ?_⟩
          by_cases e : j = k
          · rw [e, HXk.out]; exact HRa.out
          · exact HJ.out j (by omega)
        case measure => simp [intOf]; omega
      | false =>
        go_wp2
        refine bodyPost_ret (v := .tuple #[zv, .bool false]) ?_ rfl ⟨rfl, ?_⟩
        · simp [results, Tryz.results7, go_sem, hs1, Nat.ne_of_lt hs1, q0, q1, q2, q3, q4, q5, q6]
        · refine Below.drew (Below.alloc ?_ (by have := HW1.out.size; simp; omega) _)
          iterate 7 refine Below.setCell ?_ (by simp) _
          exact HW1.out
    · obtain rfl : k = 2 := by omega
      exfalso
      exact hnm.out HJ.out
set_option maxHeartbeats 4000000 in
theorem rp_len10 (a op : ByteArray) (b off N c : Nat) (w : World) (hl : N ≤ 1000) (h4 : 3 < N) (hcap : N ≤ c) (hcm : c ≤ maxLen) (ha0 : a.size ≤ 1000000) (hc0 : w.cell? ⟨b, off, none⟩ = some (.string a)) (hc1 : w.cell? ⟨b, off + 1, none⟩ = some (.string ⟨#[61]⟩)) (hc2 : w.cell? ⟨b, off + 2, none⟩ = some (.string op)) (ha : ari op = 1) (hd : knd op = 0) (hs : 3 + 1 ≤ N) (hn : nmb a = true) (xs : List ByteArray) (o3 : Nat) (ho3 : (if c = 3 then some (⟨b, off, none⟩ : Addr) else some ⟨b, off + 3, none⟩) = some ⟨b, o3, none⟩) (hargs : ∀ k, k < 1 → w.cell? ⟨b, o3 + k, none⟩ = some (.string (xs.getD k em))) (hxs : ∀ k, k < 1 → (xs.getD k em).size ≤ 1000000) (hall : ∀ k, k < 1 → nmb (xs.getD k em) = true) (o4 : Nat) (ho4 : (if c = 4 then some (⟨b, off, none⟩ : Addr) else some ⟨b, off + 4, none⟩) = some ⟨b, o4, none⟩) (hq : (((N - 4 : Nat) : Int) != 0) = true) :
    Calls Tryz.prog 7 #[.slice (some ⟨b, off, none⟩) N c] w fun e w' => (e = .returned (.tuple #[zv, .bool false])) ∧ Below w.heap.size w w' := by
  have hN := fun w => Lx.refName_any a w ha0
  unfold nmb at hn
  rw [hn] at hN
  have HX : Hid _ := hxs
  have hg : ∀ v, Below w.heap.size w v → ∀ k, k < 1 → v.cell? ⟨b, o3 + k, none⟩ = some (.string (xs.getD k em)) := fun v hv k hk => cell_below hv (hargs k hk)
  have HG : Hid _ := hg
  clear hg hxs hargs
  have hnm : Hid _ := hall
  clear hall
  have hK := kind_any op
  rw [ha, hd] at hK
  have hl0 : b < w.heap.size := row_lt hc0
  have hB0 : Below w.heap.size w (w.alloc (.cells z7 32)) := (Below.refl _ _).alloc (Nat.le_refl _) _
  go_enter Tryz.func7, Tryz.ntmps7
  go_wp2_with fail
  refine (hK _).mono ?_
  rintro e w1 ⟨rfl, h1⟩
  clear hK
  simp only [Int.natCast_one, Int.natCast_zero]
  have hBw : Below w.heap.size w w1 := hB0.trans (h1.mono (by simp))
  have x0 : w1.cell? ⟨b, off, none⟩ = some (.string a) := cell_below hBw hc0
  have x2 : w1.cell? ⟨b, off + 2, none⟩ = some (.string op) := cell_below hBw hc2
  have HW1 : Hid (Below w.heap.size w w1) := hBw
  obtain ⟨q0, q1, q2, q3, q4, q5, q6, f1, -⟩ := own7 (r := 32) h1
  have hs1 : w.heap.size < w1.heap.size := by have := h1.size; simp at this; omega
  have hbl : b < w1.heap.size := row_lt x0
  have hbn : b ≠ w1.heap.size := Nat.ne_of_lt hbl
  have h2N : (2 : Int) < (N : Int) := by omega
  have h0N : (0 : Int) < (N : Int) := by omega
  clear hc0 hc1 hc2 hBw h1 hB0
  go_wp2_with fail
  refine (hN _).mono ?_
  rintro e w2 ⟨rfl, rfl⟩
  clear hN
  go_wp2_with fail
  go_region
  clear x0 x2
  go_wp2_with fail
  go_loop [7] (fun i => ∃ k : Nat, k ≤ 1 ∧ i = .int .i64 (k : Int) ∧ ∀ j, j < k → nmb (xs.getD j em) = true) (fun i => 1 - (intOf i).toNat)
  case atStart => exact ⟨0, by omega, rfl, fun j hj => by omega⟩
  case round =>
    obtain ⟨k, hk, rfl, hj⟩ := hrel
    have HJ : Hid _ := hj
    clear hj
    by_cases h : k < 1
    · have hc := HG.out w2 HW1.out k h
      have hsz := HX.out k h
      obtain ⟨x, hx⟩ : ∃ z, xs.getD k em = z := ⟨_, rfl⟩
      rw [hx] at hc hsz
      have HXk : Hid _ := hx
      clear hx
      go_wp2_with fail
      refine (Lx.refName_any x _ hsz).mono ?_
      rintro e w3 ⟨rfl, rfl⟩
      obtain ⟨r, hr⟩ : ∃ r, Lx.nm x.data.toList = r := ⟨_, rfl⟩
      have HRa : Hid (nmb x = r) := hr
      rw [hr]
      clear hr
      cases r with
      | true =>
        go_wp2
        go_round
        case rel =>
          refine ⟨k + 1, by omega, by go_num, fun j hj => ?_⟩
          by_cases e : j = k
          · rw [e, HXk.out]; exact HRa.out
          · exact HJ.out j (by omega)
        case measure => simp [intOf]; omega
      | false =>
        exfalso
        have := hnm.out k h
        rw [HXk.out, HRa.out] at this
        cases this
    · obtain rfl : k = 1 := by omega
      clear HJ h hk HX HG hnm
      go_wp2
      refine bodyPost_ret (v := .tuple #[zv, .bool false]) ?_ rfl ⟨rfl, ?_⟩
      · simp [results, Tryz.results7, go_sem, hs1, Nat.ne_of_lt hs1, q0, q1, q2, q3, q4, q5, q6]
      · refine Below.drew (Below.alloc ?_ (by have := HW1.out.size; simp; omega) _)
        iterate 7 refine Below.setCell ?_ (by simp) _
        exact HW1.out
set_option maxHeartbeats 4000000 in
theorem rp_len20 (a op : ByteArray) (b off N c : Nat) (w : World) (hl : N ≤ 1000) (h4 : 3 < N) (hcap : N ≤ c) (hcm : c ≤ maxLen) (ha0 : a.size ≤ 1000000) (hc0 : w.cell? ⟨b, off, none⟩ = some (.string a)) (hc1 : w.cell? ⟨b, off + 1, none⟩ = some (.string ⟨#[61]⟩)) (hc2 : w.cell? ⟨b, off + 2, none⟩ = some (.string op)) (ha : ari op = 2) (hd : knd op = 0) (hs : 3 + 2 ≤ N) (hn : nmb a = true) (xs : List ByteArray) (o3 : Nat) (ho3 : (if c = 3 then some (⟨b, off, none⟩ : Addr) else some ⟨b, off + 3, none⟩) = some ⟨b, o3, none⟩) (hargs : ∀ k, k < 2 → w.cell? ⟨b, o3 + k, none⟩ = some (.string (xs.getD k em))) (hxs : ∀ k, k < 2 → (xs.getD k em).size ≤ 1000000) (hall : ∀ k, k < 2 → nmb (xs.getD k em) = true) (o4 : Nat) (ho4 : (if c = 5 then some (⟨b, off, none⟩ : Addr) else some ⟨b, off + 5, none⟩) = some ⟨b, o4, none⟩) (hq : (((N - 5 : Nat) : Int) != 0) = true) :
    Calls Tryz.prog 7 #[.slice (some ⟨b, off, none⟩) N c] w fun e w' => (e = .returned (.tuple #[zv, .bool false])) ∧ Below w.heap.size w w' := by
  have hN := fun w => Lx.refName_any a w ha0
  unfold nmb at hn
  rw [hn] at hN
  have HX : Hid _ := hxs
  have hg : ∀ v, Below w.heap.size w v → ∀ k, k < 2 → v.cell? ⟨b, o3 + k, none⟩ = some (.string (xs.getD k em)) := fun v hv k hk => cell_below hv (hargs k hk)
  have HG : Hid _ := hg
  clear hg hxs hargs
  have hnm : Hid _ := hall
  clear hall
  have hK := kind_any op
  rw [ha, hd] at hK
  have hl0 : b < w.heap.size := row_lt hc0
  have hB0 : Below w.heap.size w (w.alloc (.cells z7 32)) := (Below.refl _ _).alloc (Nat.le_refl _) _
  go_enter Tryz.func7, Tryz.ntmps7
  go_wp2_with fail
  refine (hK _).mono ?_
  rintro e w1 ⟨rfl, h1⟩
  clear hK
  simp only [Int.cast_ofNat_Int, Int.natCast_zero]
  have hBw : Below w.heap.size w w1 := hB0.trans (h1.mono (by simp))
  have x0 : w1.cell? ⟨b, off, none⟩ = some (.string a) := cell_below hBw hc0
  have x2 : w1.cell? ⟨b, off + 2, none⟩ = some (.string op) := cell_below hBw hc2
  have HW1 : Hid (Below w.heap.size w w1) := hBw
  obtain ⟨q0, q1, q2, q3, q4, q5, q6, f1, -⟩ := own7 (r := 32) h1
  have hs1 : w.heap.size < w1.heap.size := by have := h1.size; simp at this; omega
  have hbl : b < w1.heap.size := row_lt x0
  have hbn : b ≠ w1.heap.size := Nat.ne_of_lt hbl
  have h2N : (2 : Int) < (N : Int) := by omega
  have h0N : (0 : Int) < (N : Int) := by omega
  clear hc0 hc1 hc2 hBw h1 hB0
  go_wp2_with fail
  refine (hN _).mono ?_
  rintro e w2 ⟨rfl, rfl⟩
  clear hN
  go_wp2_with fail
  go_region
  clear x0 x2
  go_wp2_with fail
  go_loop [7] (fun i => ∃ k : Nat, k ≤ 2 ∧ i = .int .i64 (k : Int) ∧ ∀ j, j < k → nmb (xs.getD j em) = true) (fun i => 2 - (intOf i).toNat)
  case atStart => exact ⟨0, by omega, rfl, fun j hj => by omega⟩
  case round =>
    obtain ⟨k, hk, rfl, hj⟩ := hrel
    have HJ : Hid _ := hj
    clear hj
    by_cases h : k < 2
    · have hc := HG.out w2 HW1.out k h
      have hsz := HX.out k h
      obtain ⟨x, hx⟩ : ∃ z, xs.getD k em = z := ⟨_, rfl⟩
      rw [hx] at hc hsz
      have HXk : Hid _ := hx
      clear hx
      go_wp2_with fail
      refine (Lx.refName_any x _ hsz).mono ?_
      rintro e w3 ⟨rfl, rfl⟩
      obtain ⟨r, hr⟩ : ∃ r, Lx.nm x.data.toList = r := ⟨_, rfl⟩
      have HRa : Hid (nmb x = r) := hr
      rw [hr]
      clear hr
      cases r with
      | true =>
        go_wp2
        go_round
        case rel =>
          refine ⟨k + 1, by omega, by go_num, fun j hj => ?_⟩
          by_cases e : j = k
          · rw [e, HXk.out]; exact HRa.out
          · exact HJ.out j (by omega)
        case measure => simp [intOf]; omega
      | false =>
        exfalso
        have := hnm.out k h
        rw [HXk.out, HRa.out] at this
        cases this
    · obtain rfl : k = 2 := by omega
      clear HJ h hk HX HG hnm
      go_wp2
      refine bodyPost_ret (v := .tuple #[zv, .bool false]) ?_ rfl ⟨rfl, ?_⟩
      · simp [results, Tryz.results7, go_sem, hs1, Nat.ne_of_lt hs1, q0, q1, q2, q3, q4, q5, q6]
      · refine Below.drew (Below.alloc ?_ (by have := HW1.out.size; simp; omega) _)
        iterate 7 refine Below.setCell ?_ (by simp) _
        exact HW1.out
set_option maxHeartbeats 4000000 in
theorem rp_len11 (a op : ByteArray) (b off N c : Nat) (w : World) (hl : N ≤ 1000) (h4 : 3 < N) (hcap : N ≤ c) (hcm : c ≤ maxLen) (ha0 : a.size ≤ 1000000) (hc0 : w.cell? ⟨b, off, none⟩ = some (.string a)) (hc1 : w.cell? ⟨b, off + 1, none⟩ = some (.string ⟨#[61]⟩)) (hc2 : w.cell? ⟨b, off + 2, none⟩ = some (.string op)) (ha : ari op = 1) (hd : knd op = 1) (hs : 3 + 1 ≤ N) (hn : nmb a = true) (xs : List ByteArray) (o3 : Nat) (ho3 : (if c = 3 then some (⟨b, off, none⟩ : Addr) else some ⟨b, off + 3, none⟩) = some ⟨b, o3, none⟩) (hargs : ∀ k, k < 1 → w.cell? ⟨b, o3 + k, none⟩ = some (.string (xs.getD k em))) (hxs : ∀ k, k < 1 → (xs.getD k em).size ≤ 1000000) (hall : ∀ k, k < 1 → nmb (xs.getD k em) = true) (o4 : Nat) (ho4 : (if c = 4 then some (⟨b, off, none⟩ : Addr) else some ⟨b, off + 4, none⟩) = some ⟨b, o4, none⟩) (hq : (((N - 4 : Nat) : Int) != 1) = true) :
    Calls Tryz.prog 7 #[.slice (some ⟨b, off, none⟩) N c] w fun e w' => (e = .returned (.tuple #[zv, .bool false])) ∧ Below w.heap.size w w' := by
  have hN := fun w => Lx.refName_any a w ha0
  unfold nmb at hn
  rw [hn] at hN
  have HX : Hid _ := hxs
  have hg : ∀ v, Below w.heap.size w v → ∀ k, k < 1 → v.cell? ⟨b, o3 + k, none⟩ = some (.string (xs.getD k em)) := fun v hv k hk => cell_below hv (hargs k hk)
  have HG : Hid _ := hg
  clear hg hxs hargs
  have hnm : Hid _ := hall
  clear hall
  have hK := kind_any op
  rw [ha, hd] at hK
  have hl0 : b < w.heap.size := row_lt hc0
  have hB0 : Below w.heap.size w (w.alloc (.cells z7 32)) := (Below.refl _ _).alloc (Nat.le_refl _) _
  go_enter Tryz.func7, Tryz.ntmps7
  go_wp2_with fail
  refine (hK _).mono ?_
  rintro e w1 ⟨rfl, h1⟩
  clear hK
  simp only [Int.natCast_one]
  have hBw : Below w.heap.size w w1 := hB0.trans (h1.mono (by simp))
  have x0 : w1.cell? ⟨b, off, none⟩ = some (.string a) := cell_below hBw hc0
  have x2 : w1.cell? ⟨b, off + 2, none⟩ = some (.string op) := cell_below hBw hc2
  have HW1 : Hid (Below w.heap.size w w1) := hBw
  obtain ⟨q0, q1, q2, q3, q4, q5, q6, f1, -⟩ := own7 (r := 32) h1
  have hs1 : w.heap.size < w1.heap.size := by have := h1.size; simp at this; omega
  have hbl : b < w1.heap.size := row_lt x0
  have hbn : b ≠ w1.heap.size := Nat.ne_of_lt hbl
  have h2N : (2 : Int) < (N : Int) := by omega
  have h0N : (0 : Int) < (N : Int) := by omega
  clear hc0 hc1 hc2 hBw h1 hB0
  go_wp2_with fail
  refine (hN _).mono ?_
  rintro e w2 ⟨rfl, rfl⟩
  clear hN
  go_wp2_with fail
  go_region
  clear x0 x2
  go_wp2_with fail
  go_loop [7] (fun i => ∃ k : Nat, k ≤ 1 ∧ i = .int .i64 (k : Int) ∧ ∀ j, j < k → nmb (xs.getD j em) = true) (fun i => 1 - (intOf i).toNat)
  case atStart => exact ⟨0, by omega, rfl, fun j hj => by omega⟩
  case round =>
    obtain ⟨k, hk, rfl, hj⟩ := hrel
    have HJ : Hid _ := hj
    clear hj
    by_cases h : k < 1
    · have hc := HG.out w2 HW1.out k h
      have hsz := HX.out k h
      obtain ⟨x, hx⟩ : ∃ z, xs.getD k em = z := ⟨_, rfl⟩
      rw [hx] at hc hsz
      have HXk : Hid _ := hx
      clear hx
      go_wp2_with fail
      refine (Lx.refName_any x _ hsz).mono ?_
      rintro e w3 ⟨rfl, rfl⟩
      obtain ⟨r, hr⟩ : ∃ r, Lx.nm x.data.toList = r := ⟨_, rfl⟩
      have HRa : Hid (nmb x = r) := hr
      rw [hr]
      clear hr
      cases r with
      | true =>
        go_wp2
        go_round
        case rel =>
          refine ⟨k + 1, by omega, by go_num, fun j hj => ?_⟩
          by_cases e : j = k
          · rw [e, HXk.out]; exact HRa.out
          · exact HJ.out j (by omega)
        case measure => simp [intOf]; omega
      | false =>
        exfalso
        have := hnm.out k h
        rw [HXk.out, HRa.out] at this
        cases this
    · obtain rfl : k = 1 := by omega
      clear HJ h hk HX HG hnm
      go_wp2
      refine bodyPost_ret (v := .tuple #[zv, .bool false]) ?_ rfl ⟨rfl, ?_⟩
      · simp [results, Tryz.results7, go_sem, hs1, Nat.ne_of_lt hs1, q0, q1, q2, q3, q4, q5, q6]
      · refine Below.drew (Below.alloc ?_ (by have := HW1.out.size; simp; omega) _)
        iterate 7 refine Below.setCell ?_ (by simp) _
        exact HW1.out
set_option maxHeartbeats 4000000 in
theorem rp_len12 (a op : ByteArray) (b off N c : Nat) (w : World) (hl : N ≤ 1000) (h4 : 3 < N) (hcap : N ≤ c) (hcm : c ≤ maxLen) (ha0 : a.size ≤ 1000000) (hc0 : w.cell? ⟨b, off, none⟩ = some (.string a)) (hc1 : w.cell? ⟨b, off + 1, none⟩ = some (.string ⟨#[61]⟩)) (hc2 : w.cell? ⟨b, off + 2, none⟩ = some (.string op)) (ha : ari op = 1) (hd : knd op = 2) (hs : 3 + 1 ≤ N) (hn : nmb a = true) (xs : List ByteArray) (o3 : Nat) (ho3 : (if c = 3 then some (⟨b, off, none⟩ : Addr) else some ⟨b, off + 3, none⟩) = some ⟨b, o3, none⟩) (hargs : ∀ k, k < 1 → w.cell? ⟨b, o3 + k, none⟩ = some (.string (xs.getD k em))) (hxs : ∀ k, k < 1 → (xs.getD k em).size ≤ 1000000) (hall : ∀ k, k < 1 → nmb (xs.getD k em) = true) (o4 : Nat) (ho4 : (if c = 4 then some (⟨b, off, none⟩ : Addr) else some ⟨b, off + 4, none⟩) = some ⟨b, o4, none⟩) (hq : (((N - 4 : Nat) : Int) != 1) = true) :
    Calls Tryz.prog 7 #[.slice (some ⟨b, off, none⟩) N c] w fun e w' => (e = .returned (.tuple #[zv, .bool false])) ∧ Below w.heap.size w w' := by
  have hN := fun w => Lx.refName_any a w ha0
  unfold nmb at hn
  rw [hn] at hN
  have HX : Hid _ := hxs
  have hg : ∀ v, Below w.heap.size w v → ∀ k, k < 1 → v.cell? ⟨b, o3 + k, none⟩ = some (.string (xs.getD k em)) := fun v hv k hk => cell_below hv (hargs k hk)
  have HG : Hid _ := hg
  clear hg hxs hargs
  have hnm : Hid _ := hall
  clear hall
  have hK := kind_any op
  rw [ha, hd] at hK
  have hl0 : b < w.heap.size := row_lt hc0
  have hB0 : Below w.heap.size w (w.alloc (.cells z7 32)) := (Below.refl _ _).alloc (Nat.le_refl _) _
  go_enter Tryz.func7, Tryz.ntmps7
  go_wp2_with fail
  refine (hK _).mono ?_
  rintro e w1 ⟨rfl, h1⟩
  clear hK
  simp only [Int.natCast_one, Int.cast_ofNat_Int]
  have hBw : Below w.heap.size w w1 := hB0.trans (h1.mono (by simp))
  have x0 : w1.cell? ⟨b, off, none⟩ = some (.string a) := cell_below hBw hc0
  have x2 : w1.cell? ⟨b, off + 2, none⟩ = some (.string op) := cell_below hBw hc2
  have HW1 : Hid (Below w.heap.size w w1) := hBw
  obtain ⟨q0, q1, q2, q3, q4, q5, q6, f1, -⟩ := own7 (r := 32) h1
  have hs1 : w.heap.size < w1.heap.size := by have := h1.size; simp at this; omega
  have hbl : b < w1.heap.size := row_lt x0
  have hbn : b ≠ w1.heap.size := Nat.ne_of_lt hbl
  have h2N : (2 : Int) < (N : Int) := by omega
  have h0N : (0 : Int) < (N : Int) := by omega
  clear hc0 hc1 hc2 hBw h1 hB0
  go_wp2_with fail
  refine (hN _).mono ?_
  rintro e w2 ⟨rfl, rfl⟩
  clear hN
  go_wp2_with fail
  go_region
  clear x0 x2
  go_wp2_with fail
  go_loop [7] (fun i => ∃ k : Nat, k ≤ 1 ∧ i = .int .i64 (k : Int) ∧ ∀ j, j < k → nmb (xs.getD j em) = true) (fun i => 1 - (intOf i).toNat)
  case atStart => exact ⟨0, by omega, rfl, fun j hj => by omega⟩
  case round =>
    obtain ⟨k, hk, rfl, hj⟩ := hrel
    have HJ : Hid _ := hj
    clear hj
    by_cases h : k < 1
    · have hc := HG.out w2 HW1.out k h
      have hsz := HX.out k h
      obtain ⟨x, hx⟩ : ∃ z, xs.getD k em = z := ⟨_, rfl⟩
      rw [hx] at hc hsz
      have HXk : Hid _ := hx
      clear hx
      go_wp2_with fail
      refine (Lx.refName_any x _ hsz).mono ?_
      rintro e w3 ⟨rfl, rfl⟩
      obtain ⟨r, hr⟩ : ∃ r, Lx.nm x.data.toList = r := ⟨_, rfl⟩
      have HRa : Hid (nmb x = r) := hr
      rw [hr]
      clear hr
      cases r with
      | true =>
        go_wp2
        go_round
        case rel =>
          refine ⟨k + 1, by omega, by go_num, fun j hj => ?_⟩
          by_cases e : j = k
          · rw [e, HXk.out]; exact HRa.out
          · exact HJ.out j (by omega)
        case measure => simp [intOf]; omega
      | false =>
        exfalso
        have := hnm.out k h
        rw [HXk.out, HRa.out] at this
        cases this
    · obtain rfl : k = 1 := by omega
      clear HJ h hk HX HG hnm
      go_wp2
      refine bodyPost_ret (v := .tuple #[zv, .bool false]) ?_ rfl ⟨rfl, ?_⟩
      · simp [results, Tryz.results7, go_sem, hs1, Nat.ne_of_lt hs1, q0, q1, q2, q3, q4, q5, q6]
      · refine Below.drew (Below.alloc ?_ (by have := HW1.out.size; simp; omega) _)
        iterate 7 refine Below.setCell ?_ (by simp) _
        exact HW1.out
end Go.Proofs.YtokfkmncabmmcaaGreatDoor.Rd
