/-
  THE DOCUMENT's ANSWER FOR WORDS WITH =: what stands behind the names. Conditions: each theorem's own.
-/
import Derived.Test.YtokfkmncabmmcaaGreatDoorRx9
import Derived.Test.YtokfkmncabmmcaaGreatDoorNam
namespace Go.Proofs.YtokfkmncabmmcaaGreatDoor.Rd
set_option maxRecDepth 100000
open Go.RowKit
set_option linter.unusedVariables false
set_option linter.unusedSimpArgs false

set_option maxHeartbeats 4000000 in
theorem rp_plain1 (a op : ByteArray) (b off N c : Nat) (w : World) (hl : N ≤ 1000) (h4 : 3 < N) (hcap : N ≤ c) (hcm : c ≤ maxLen) (ha0 : a.size ≤ 1000000) (hc0 : w.cell? ⟨b, off, none⟩ = some (.string a)) (hc1 : w.cell? ⟨b, off + 1, none⟩ = some (.string ⟨#[61]⟩)) (hc2 : w.cell? ⟨b, off + 2, none⟩ = some (.string op)) (ha : ari op = 1) (hd : knd op = 0) (hs : 3 + 1 ≤ N) (hn : nmb a = true) (xs : List ByteArray) (o3 : Nat) (ho3 : (if c = 3 then some (⟨b, off, none⟩ : Addr) else some ⟨b, off + 3, none⟩) = some ⟨b, o3, none⟩) (hargs : ∀ k, k < 1 → w.cell? ⟨b, o3 + k, none⟩ = some (.string (xs.getD k em))) (hxs : ∀ k, k < 1 → (xs.getD k em).size ≤ 1000000) (hall : ∀ k, k < 1 → nmb (xs.getD k em) = true) (o4 : Nat) (ho4 : (if c = 4 then some (⟨b, off, none⟩ : Addr) else some ⟨b, off + 4, none⟩) = some ⟨b, o4, none⟩) (hN : N = 4) :
    Calls Tryz.prog 7 #[.slice (some ⟨b, off, none⟩) N c] w fun e w' => (e = .returned (.tuple #[sv a op (.slice (some ⟨b, o3, none⟩) 1 (c - 3)) nils em 0 nils, .bool true])) ∧ Below w.heap.size w w' := by
  subst hN
  have hN := fun w => Lx.refName_any a w ha0
  unfold nmb at hn
  rw [hn] at hN
  have HX : Hid _ := hxs
  have hg : ∀ v, Below w.heap.size w v → ∀ k, k < 1 → v.cell? ⟨b, o3 + k, none⟩ = some (.string (xs.getD k em)) := fun v hv k hk => cell_below hv (hargs k hk)
  have HG : Hid _ := hg
  clear hg hxs hargs
  have hnm : Hid _ := hall
  clear hall
  have hK := kind_any op
  rw [ha, hd] at hK
  have hl0 : b < w.heap.size := row_lt hc0
  have hB0 : Below w.heap.size w (w.alloc (.cells z7 32)) := (Below.refl _ _).alloc (Nat.le_refl _) _
  go_enter Tryz.func7, Tryz.ntmps7
  go_wp2_with fail
  refine (hK _).mono ?_
  rintro e w1 ⟨rfl, h1⟩
  clear hK
  simp only [Int.natCast_one, Int.natCast_zero]
  have hBw : Below w.heap.size w w1 := hB0.trans (h1.mono (by simp))
  have x0 : w1.cell? ⟨b, off, none⟩ = some (.string a) := cell_below hBw hc0
  have x2 : w1.cell? ⟨b, off + 2, none⟩ = some (.string op) := cell_below hBw hc2
  have HW1 : Hid (Below w.heap.size w w1) := hBw
  obtain ⟨q0, q1, q2, q3, q4, q5, q6, f1, -⟩ := own7 (r := 32) h1
  have hs1 : w.heap.size < w1.heap.size := by have := h1.size; simp at this; omega
  have hbl : b < w1.heap.size := row_lt x0
  have hbn : b ≠ w1.heap.size := Nat.ne_of_lt hbl
  clear hc0 hc1 hc2 hBw h1 hB0
  go_wp2_with fail
  refine (hN _).mono ?_
  rintro e w2 ⟨rfl, rfl⟩
  clear hN
  go_wp2_with fail
  go_region
  clear x0 x2
  go_wp2_with fail
  go_loop [7] (fun i => ∃ k : Nat, k ≤ 1 ∧ i = .int .i64 (k : Int) ∧ ∀ j, j < k → nmb (xs.getD j em) = true) (fun i => 1 - (intOf i).toNat)
  case atStart => exact ⟨0, by omega, rfl, fun j hj => by omega⟩
  case round =>
    obtain ⟨k, hk, rfl, hj⟩ := hrel
    have HJ : Hid _ := hj
    clear hj
    by_cases h : k < 1
    · have hc := HG.out w2 HW1.out k h
      have hsz := HX.out k h
      obtain ⟨x, hx⟩ : ∃ z, xs.getD k em = z := ⟨_, rfl⟩
      rw [hx] at hc hsz
      have HXk : Hid _ := hx
      clear hx
      go_wp2_with fail
      refine (Lx.refName_any x _ hsz).mono ?_
      rintro e w3 ⟨rfl, rfl⟩
      obtain ⟨r, hr⟩ : ∃ r, Lx.nm x.data.toList = r := ⟨_, rfl⟩
      have HRa : Hid (nmb x = r) := hr
      rw [hr]
      clear hr
      cases r with
      | true =>
        go_wp2
        go_round
        case rel =>
          refine ⟨k + 1, by omega, by go_num, fun j hj => ?_⟩
          by_cases e : j = k
          · rw [e, HXk.out]; exact HRa.out
          · exact HJ.out j (by omega)
        case measure => simp [intOf]; omega
      | false =>
        exfalso
        have := hnm.out k h
        rw [HXk.out, HRa.out] at this
        cases this
    · obtain rfl : k = 1 := by omega
      clear HJ h hk HX HG hnm
      go_wp2
      refine bodyPost_ret (v := .tuple #[sv a op (.slice (some ⟨b, o3, none⟩) 1 (c - 3)) nils em 0 nils, .bool true]) ?_ rfl ⟨rfl, ?_⟩
      · simp [results, Tryz.results7, go_sem, hs1, Nat.ne_of_lt hs1, q0, q1, q2, q3, q4, q5, q6]
      · refine Below.drew (Below.alloc ?_ (by have := HW1.out.size; simp; omega) _)
        iterate 7 refine Below.setCell ?_ (by simp) _
        exact HW1.out
set_option maxHeartbeats 4000000 in
theorem rp_plain2 (a op : ByteArray) (b off N c : Nat) (w : World) (hl : N ≤ 1000) (h4 : 3 < N) (hcap : N ≤ c) (hcm : c ≤ maxLen) (ha0 : a.size ≤ 1000000) (hc0 : w.cell? ⟨b, off, none⟩ = some (.string a)) (hc1 : w.cell? ⟨b, off + 1, none⟩ = some (.string ⟨#[61]⟩)) (hc2 : w.cell? ⟨b, off + 2, none⟩ = some (.string op)) (ha : ari op = 2) (hd : knd op = 0) (hs : 3 + 2 ≤ N) (hn : nmb a = true) (xs : List ByteArray) (o3 : Nat) (ho3 : (if c = 3 then some (⟨b, off, none⟩ : Addr) else some ⟨b, off + 3, none⟩) = some ⟨b, o3, none⟩) (hargs : ∀ k, k < 2 → w.cell? ⟨b, o3 + k, none⟩ = some (.string (xs.getD k em))) (hxs : ∀ k, k < 2 → (xs.getD k em).size ≤ 1000000) (hall : ∀ k, k < 2 → nmb (xs.getD k em) = true) (o4 : Nat) (ho4 : (if c = 5 then some (⟨b, off, none⟩ : Addr) else some ⟨b, off + 5, none⟩) = some ⟨b, o4, none⟩) (hN : N = 5) :
    Calls Tryz.prog 7 #[.slice (some ⟨b, off, none⟩) N c] w fun e w' => (e = .returned (.tuple #[sv a op (.slice (some ⟨b, o3, none⟩) 2 (c - 3)) nils em 0 nils, .bool true])) ∧ Below w.heap.size w w' := by
  subst hN
  have hN := fun w => Lx.refName_any a w ha0
  unfold nmb at hn
  rw [hn] at hN
  have HX : Hid _ := hxs
  have hg : ∀ v, Below w.heap.size w v → ∀ k, k < 2 → v.cell? ⟨b, o3 + k, none⟩ = some (.string (xs.getD k em)) := fun v hv k hk => cell_below hv (hargs k hk)
  have HG : Hid _ := hg
  clear hg hxs hargs
  have hnm : Hid _ := hall
  clear hall
  have hK := kind_any op
  rw [ha, hd] at hK
  have hl0 : b < w.heap.size := row_lt hc0
  have hB0 : Below w.heap.size w (w.alloc (.cells z7 32)) := (Below.refl _ _).alloc (Nat.le_refl _) _
  go_enter Tryz.func7, Tryz.ntmps7
  go_wp2_with fail
  refine (hK _).mono ?_
  rintro e w1 ⟨rfl, h1⟩
  clear hK
  simp only [Int.cast_ofNat_Int, Int.natCast_zero]
  have hBw : Below w.heap.size w w1 := hB0.trans (h1.mono (by simp))
  have x0 : w1.cell? ⟨b, off, none⟩ = some (.string a) := cell_below hBw hc0
  have x2 : w1.cell? ⟨b, off + 2, none⟩ = some (.string op) := cell_below hBw hc2
  have HW1 : Hid (Below w.heap.size w w1) := hBw
  obtain ⟨q0, q1, q2, q3, q4, q5, q6, f1, -⟩ := own7 (r := 32) h1
  have hs1 : w.heap.size < w1.heap.size := by have := h1.size; simp at this; omega
  have hbl : b < w1.heap.size := row_lt x0
  have hbn : b ≠ w1.heap.size := Nat.ne_of_lt hbl
  clear hc0 hc1 hc2 hBw h1 hB0
  go_wp2_with fail
  refine (hN _).mono ?_
  rintro e w2 ⟨rfl, rfl⟩
  clear hN
  go_wp2_with fail
  go_region
  clear x0 x2
  go_wp2_with fail
  go_loop [7] (fun i => ∃ k : Nat, k ≤ 2 ∧ i = .int .i64 (k : Int) ∧ ∀ j, j < k → nmb (xs.getD j em) = true) (fun i => 2 - (intOf i).toNat)
  case atStart => exact ⟨0, by omega, rfl, fun j hj => by omega⟩
  case round =>
    obtain ⟨k, hk, rfl, hj⟩ := hrel
    have HJ : Hid _ := hj
    clear hj
    by_cases h : k < 2
    · have hc := HG.out w2 HW1.out k h
      have hsz := HX.out k h
      obtain ⟨x, hx⟩ : ∃ z, xs.getD k em = z := ⟨_, rfl⟩
      rw [hx] at hc hsz
      have HXk : Hid _ := hx
      clear hx
      go_wp2_with fail
      refine (Lx.refName_any x _ hsz).mono ?_
      rintro e w3 ⟨rfl, rfl⟩
      obtain ⟨r, hr⟩ : ∃ r, Lx.nm x.data.toList = r := ⟨_, rfl⟩
      have HRa : Hid (nmb x = r) := hr
      rw [hr]
      clear hr
      cases r with
      | true =>
        go_wp2
        go_round
        case rel =>
          refine ⟨k + 1, by omega, by go_num, fun j hj => ?_⟩
          by_cases e : j = k
          · rw [e, HXk.out]; exact HRa.out
          · exact HJ.out j (by omega)
        case measure => simp [intOf]; omega
      | false =>
        exfalso
        have := hnm.out k h
        rw [HXk.out, HRa.out] at this
        cases this
    · obtain rfl : k = 2 := by omega
      clear HJ h hk HX HG hnm
      go_wp2
      refine bodyPost_ret (v := .tuple #[sv a op (.slice (some ⟨b, o3, none⟩) 2 (c - 3)) nils em 0 nils, .bool true]) ?_ rfl ⟨rfl, ?_⟩
      · simp [results, Tryz.results7, go_sem, hs1, Nat.ne_of_lt hs1, q0, q1, q2, q3, q4, q5, q6]
      · refine Below.drew (Below.alloc ?_ (by have := HW1.out.size; simp; omega) _)
        iterate 7 refine Below.setCell ?_ (by simp) _
        exact HW1.out
set_option maxHeartbeats 4000000 in
theorem rp_ratY (a op : ByteArray) (b off N c : Nat) (w : World) (hl : N ≤ 1000) (h4 : 3 < N) (hcap : N ≤ c) (hcm : c ≤ maxLen) (ha0 : a.size ≤ 1000000) (hc0 : w.cell? ⟨b, off, none⟩ = some (.string a)) (hc1 : w.cell? ⟨b, off + 1, none⟩ = some (.string ⟨#[61]⟩)) (hc2 : w.cell? ⟨b, off + 2, none⟩ = some (.string op)) (ha : ari op = 1) (hd : knd op = 1) (hs : 3 + 1 ≤ N) (hn : nmb a = true) (xs : List ByteArray) (o3 : Nat) (ho3 : (if c = 3 then some (⟨b, off, none⟩ : Addr) else some ⟨b, off + 3, none⟩) = some ⟨b, o3, none⟩) (hargs : ∀ k, k < 1 → w.cell? ⟨b, o3 + k, none⟩ = some (.string (xs.getD k em))) (hxs : ∀ k, k < 1 → (xs.getD k em).size ≤ 1000000) (hall : ∀ k, k < 1 → nmb (xs.getD k em) = true) (o4 : Nat) (ho4 : (if c = 4 then some (⟨b, off, none⟩ : Addr) else some ⟨b, off + 4, none⟩) = some ⟨b, o4, none⟩) (hN : N = 5) (x : ByteArray) (hx : w.cell? ⟨b, o4, none⟩ = some (.string x)) (hF : ∀ v, Below w.heap.size w v → Calls Tryz.prog 14 #[.slice (some ⟨b, o4, none⟩) 1 (c - 4)] v fun e w' => e = .returned (.bool true) ∧ Below v.heap.size v w') :
    Calls Tryz.prog 7 #[.slice (some ⟨b, off, none⟩) N c] w fun e w' => (e = .returned (.tuple #[sv a op (.slice (some ⟨b, o3, none⟩) 1 (c - 3)) nils x 0 nils, .bool true])) ∧ Below w.heap.size w w' := by
  subst hN
  have hN := fun w => Lx.refName_any a w ha0
  unfold nmb at hn
  rw [hn] at hN
  have HX : Hid _ := hxs
  have HFF : Hid _ := hF
  clear hF
  have hg : ∀ v, Below w.heap.size w v → ∀ k, k < 1 → v.cell? ⟨b, o3 + k, none⟩ = some (.string (xs.getD k em)) := fun v hv k hk => cell_below hv (hargs k hk)
  have HG : Hid _ := hg
  clear hg hxs hargs
  have hnm : Hid _ := hall
  clear hall
  have hK := kind_any op
  rw [ha, hd] at hK
  have hl0 : b < w.heap.size := row_lt hc0
  have hB0 : Below w.heap.size w (w.alloc (.cells z7 32)) := (Below.refl _ _).alloc (Nat.le_refl _) _
  go_enter Tryz.func7, Tryz.ntmps7
  go_wp2_with fail
  refine (hK _).mono ?_
  rintro e w1 ⟨rfl, h1⟩
  clear hK
  simp only [Int.natCast_one]
  have hBw : Below w.heap.size w w1 := hB0.trans (h1.mono (by simp))
  have x0 : w1.cell? ⟨b, off, none⟩ = some (.string a) := cell_below hBw hc0
  have x2 : w1.cell? ⟨b, off + 2, none⟩ = some (.string op) := cell_below hBw hc2
  have HW1 : Hid (Below w.heap.size w w1) := hBw
  obtain ⟨q0, q1, q2, q3, q4, q5, q6, f1, -⟩ := own7 (r := 32) h1
  have hs1 : w.heap.size < w1.heap.size := by have := h1.size; simp at this; omega
  have hbl : b < w1.heap.size := row_lt x0
  have hbn : b ≠ w1.heap.size := Nat.ne_of_lt hbl
  clear hc0 hc1 hc2 hBw h1 hB0
  go_wp2_with fail
  refine (hN _).mono ?_
  rintro e w2 ⟨rfl, rfl⟩
  clear hN
  go_wp2_with fail
  go_region
  clear x0 x2
  go_wp2_with fail
  go_loop [7] (fun i => ∃ k : Nat, k ≤ 1 ∧ i = .int .i64 (k : Int) ∧ ∀ j, j < k → nmb (xs.getD j em) = true) (fun i => 1 - (intOf i).toNat)
  case atStart => exact ⟨0, by omega, rfl, fun j hj => by omega⟩
  case round =>
    obtain ⟨k, hk, rfl, hj⟩ := hrel
    have HJ : Hid _ := hj
    clear hj
    by_cases h : k < 1
    · have hc := HG.out w2 HW1.out k h
      have hsz := HX.out k h
      obtain ⟨x, hx⟩ : ∃ z, xs.getD k em = z := ⟨_, rfl⟩
      rw [hx] at hc hsz
      have HXk : Hid _ := hx
      clear hx
      go_wp2_with fail
      refine (Lx.refName_any x _ hsz).mono ?_
      rintro e w3 ⟨rfl, rfl⟩
      obtain ⟨r, hr⟩ : ∃ r, Lx.nm x.data.toList = r := ⟨_, rfl⟩
      have HRa : Hid (nmb x = r) := hr
      rw [hr]
      clear hr
      cases r with
      | true =>
        go_wp2
        go_round
        case rel =>
          refine ⟨k + 1, by omega, by go_num, fun j hj => ?_⟩
          by_cases e : j = k
          · rw [e, HXk.out]; exact HRa.out
          · exact HJ.out j (by omega)
        case measure => simp [intOf]; omega
      | false =>
        exfalso
        have := hnm.out k h
        rw [HXk.out, HRa.out] at this
        cases this
    · obtain rfl : k = 1 := by omega
      clear HJ h hk HX HG hnm
      have hB2 : Below w.heap.size w ((w2.alloc (.cells #[.string a, .string op, .slice (some ⟨b, o3, none⟩) 1 (c - 3), .slice none 0 0, .string ⟨#[]⟩, .int .i64 0, .slice none 0 0] 32)).drew) := (HW1.out.alloc HW1.out.size _).drew
      obtain rfl : o4 = off + 4 := by
        rw [if_neg (by omega)] at ho4
        simpa using ho4.symm
      go_wp2_with fail
      refine (HFF.out _ hB2).mono ?_
      rintro e w3 ⟨rfl, h3⟩
      have hxx := cell_below (hB2.trans (h3.mono hB2.size)) hx
      have hb3 : b < w3.heap.size := row_lt hxx
      have h3' := (Below.drew (Below.refl (w2.alloc (.cells #[.string a, .string op, .slice (some ⟨b, o3, none⟩) 1 (c - 3), .slice none 0 0, .string ⟨#[]⟩, .int .i64 0, .slice none 0 0] 32)).heap.size (w2.alloc (.cells #[.string a, .string op, .slice (some ⟨b, o3, none⟩) 1 (c - 3), .slice none 0 0, .string ⟨#[]⟩, .int .i64 0, .slice none 0 0] 32)))).trans h3
      obtain ⟨p1, pf, hBx⟩ := own1 h3'
      have p0 := p1 0
      have p1' := p1 1
      have p2 := p1 2
      have p3 := p1 3
      have p4 := p1 4
      have p5 := p1 5
      have p6 := p1 6
      simp at p0 p1' p2 p3 p4 p5 p6
      have r0 := cell_below hBx q0
      have r1 := cell_below hBx q1
      have r2 := cell_below hBx q2
      have r3 := cell_below hBx q3
      have r4 := cell_below hBx q4
      have r5 := cell_below hBx q5
      have r6 := cell_below hBx q6
      have rf : ∀ i, w3.frozen? ⟨w.heap.size, i, none⟩ = false := fun i => frozen_below hBx hs1 (f1 i)
      have HB3 : Hid (Below w.heap.size w w3) := HW1.out.trans (hBx.mono HW1.out.size)
      have hs2 : w.heap.size ≠ w2.heap.size := Nat.ne_of_lt hs1
      clear p1 hBx h3 h3' q0 q1 q2 q3 q4 q5 q6 f1
      go_wp2
      refine bodyPost_ret (v := .tuple #[sv a op (.slice (some ⟨b, o3, none⟩) 1 (c - 3)) nils x 0 nils, .bool true]) ?_ rfl ⟨rfl, ?_⟩
      · simp [results, Tryz.results7, go_sem, hs2, Ne.symm hs2, r0, r1, r2, r3, r4, r5, r6, p0, p1', p2, p3, p4, p5, p6]
      · iterate 8 refine Below.setCell ?_ (by have := HW1.out.size; simp <;> omega) _
        exact HB3.out
set_option maxHeartbeats 4000000 in
theorem rp_ratN (a op : ByteArray) (b off N c : Nat) (w : World) (hl : N ≤ 1000) (h4 : 3 < N) (hcap : N ≤ c) (hcm : c ≤ maxLen) (ha0 : a.size ≤ 1000000) (hc0 : w.cell? ⟨b, off, none⟩ = some (.string a)) (hc1 : w.cell? ⟨b, off + 1, none⟩ = some (.string ⟨#[61]⟩)) (hc2 : w.cell? ⟨b, off + 2, none⟩ = some (.string op)) (ha : ari op = 1) (hd : knd op = 1) (hs : 3 + 1 ≤ N) (hn : nmb a = true) (xs : List ByteArray) (o3 : Nat) (ho3 : (if c = 3 then some (⟨b, off, none⟩ : Addr) else some ⟨b, off + 3, none⟩) = some ⟨b, o3, none⟩) (hargs : ∀ k, k < 1 → w.cell? ⟨b, o3 + k, none⟩ = some (.string (xs.getD k em))) (hxs : ∀ k, k < 1 → (xs.getD k em).size ≤ 1000000) (hall : ∀ k, k < 1 → nmb (xs.getD k em) = true) (o4 : Nat) (ho4 : (if c = 4 then some (⟨b, off, none⟩ : Addr) else some ⟨b, off + 4, none⟩) = some ⟨b, o4, none⟩) (hN : N = 5) (x : ByteArray) (hx : w.cell? ⟨b, o4, none⟩ = some (.string x)) (hF : ∀ v, Below w.heap.size w v → Calls Tryz.prog 14 #[.slice (some ⟨b, o4, none⟩) 1 (c - 4)] v fun e w' => e = .returned (.bool false) ∧ Below v.heap.size v w') :
    Calls Tryz.prog 7 #[.slice (some ⟨b, off, none⟩) N c] w fun e w' => (e = .returned (.tuple #[zv, .bool false])) ∧ Below w.heap.size w w' := by
  subst hN
  have hN := fun w => Lx.refName_any a w ha0
  unfold nmb at hn
  rw [hn] at hN
  have HX : Hid _ := hxs
  have HFF : Hid _ := hF
  clear hF
  have hg : ∀ v, Below w.heap.size w v → ∀ k, k < 1 → v.cell? ⟨b, o3 + k, none⟩ = some (.string (xs.getD k em)) := fun v hv k hk => cell_below hv (hargs k hk)
  have HG : Hid _ := hg
  clear hg hxs hargs
  have hnm : Hid _ := hall
  clear hall
  have hK := kind_any op
  rw [ha, hd] at hK
  have hl0 : b < w.heap.size := row_lt hc0
  have hB0 : Below w.heap.size w (w.alloc (.cells z7 32)) := (Below.refl _ _).alloc (Nat.le_refl _) _
  go_enter Tryz.func7, Tryz.ntmps7
  go_wp2_with fail
  refine (hK _).mono ?_
  rintro e w1 ⟨rfl, h1⟩
  clear hK
  simp only [Int.natCast_one]
  have hBw : Below w.heap.size w w1 := hB0.trans (h1.mono (by simp))
  have x0 : w1.cell? ⟨b, off, none⟩ = some (.string a) := cell_below hBw hc0
  have x2 : w1.cell? ⟨b, off + 2, none⟩ = some (.string op) := cell_below hBw hc2
  have HW1 : Hid (Below w.heap.size w w1) := hBw
  obtain ⟨q0, q1, q2, q3, q4, q5, q6, f1, -⟩ := own7 (r := 32) h1
  have hs1 : w.heap.size < w1.heap.size := by have := h1.size; simp at this; omega
  have hbl : b < w1.heap.size := row_lt x0
  have hbn : b ≠ w1.heap.size := Nat.ne_of_lt hbl
  clear hc0 hc1 hc2 hBw h1 hB0
  go_wp2_with fail
  refine (hN _).mono ?_
  rintro e w2 ⟨rfl, rfl⟩
  clear hN
  go_wp2_with fail
  go_region
  clear x0 x2
  go_wp2_with fail
  go_loop [7] (fun i => ∃ k : Nat, k ≤ 1 ∧ i = .int .i64 (k : Int) ∧ ∀ j, j < k → nmb (xs.getD j em) = true) (fun i => 1 - (intOf i).toNat)
  case atStart => exact ⟨0, by omega, rfl, fun j hj => by omega⟩
  case round =>
    obtain ⟨k, hk, rfl, hj⟩ := hrel
    have HJ : Hid _ := hj
    clear hj
    by_cases h : k < 1
    · have hc := HG.out w2 HW1.out k h
      have hsz := HX.out k h
      obtain ⟨x, hx⟩ : ∃ z, xs.getD k em = z := ⟨_, rfl⟩
      rw [hx] at hc hsz
      have HXk : Hid _ := hx
      clear hx
      go_wp2_with fail
      refine (Lx.refName_any x _ hsz).mono ?_
      rintro e w3 ⟨rfl, rfl⟩
      obtain ⟨r, hr⟩ : ∃ r, Lx.nm x.data.toList = r := ⟨_, rfl⟩
      have HRa : Hid (nmb x = r) := hr
      rw [hr]
      clear hr
      cases r with
      | true =>
        go_wp2
        go_round
        case rel =>
          refine ⟨k + 1, by omega, by go_num, fun j hj => ?_⟩
          by_cases e : j = k
          · rw [e, HXk.out]; exact HRa.out
          · exact HJ.out j (by omega)
        case measure => simp [intOf]; omega
      | false =>
        exfalso
        have := hnm.out k h
        rw [HXk.out, HRa.out] at this
        cases this
    · obtain rfl : k = 1 := by omega
      clear HJ h hk HX HG hnm
      have hB2 : Below w.heap.size w ((w2.alloc (.cells #[.string a, .string op, .slice (some ⟨b, o3, none⟩) 1 (c - 3), .slice none 0 0, .string ⟨#[]⟩, .int .i64 0, .slice none 0 0] 32)).drew) := (HW1.out.alloc HW1.out.size _).drew
      obtain rfl : o4 = off + 4 := by
        rw [if_neg (by omega)] at ho4
        simpa using ho4.symm
      go_wp2_with fail
      refine (HFF.out _ hB2).mono ?_
      rintro e w3 ⟨rfl, h3⟩
      have hxx := cell_below (hB2.trans (h3.mono hB2.size)) hx
      have hb3 : b < w3.heap.size := row_lt hxx
      have h3' := (Below.drew (Below.refl (w2.alloc (.cells #[.string a, .string op, .slice (some ⟨b, o3, none⟩) 1 (c - 3), .slice none 0 0, .string ⟨#[]⟩, .int .i64 0, .slice none 0 0] 32)).heap.size (w2.alloc (.cells #[.string a, .string op, .slice (some ⟨b, o3, none⟩) 1 (c - 3), .slice none 0 0, .string ⟨#[]⟩, .int .i64 0, .slice none 0 0] 32)))).trans h3
      obtain ⟨p1, pf, hBx⟩ := own1 h3'
      have p0 := p1 0
      have p1' := p1 1
      have p2 := p1 2
      have p3 := p1 3
      have p4 := p1 4
      have p5 := p1 5
      have p6 := p1 6
      simp at p0 p1' p2 p3 p4 p5 p6
      have r0 := cell_below hBx q0
      have r1 := cell_below hBx q1
      have r2 := cell_below hBx q2
      have r3 := cell_below hBx q3
      have r4 := cell_below hBx q4
      have r5 := cell_below hBx q5
      have r6 := cell_below hBx q6
      have rf : ∀ i, w3.frozen? ⟨w.heap.size, i, none⟩ = false := fun i => frozen_below hBx hs1 (f1 i)
      have HB3 : Hid (Below w.heap.size w w3) := HW1.out.trans (hBx.mono HW1.out.size)
      have hs2 : w.heap.size ≠ w2.heap.size := Nat.ne_of_lt hs1
      clear p1 hBx h3 h3' q0 q1 q2 q3 q4 q5 q6 f1
      go_wp2
      refine bodyPost_ret (v := .tuple #[zv, .bool false]) ?_ rfl ⟨rfl, ?_⟩
      · simp [results, Tryz.results7, go_sem, hs2, Ne.symm hs2, r0, r1, r2, r3, r4, r5, r6, p0, p1', p2, p3, p4, p5, p6]
      · iterate 8 refine Below.setCell ?_ (by have := HW1.out.size; simp <;> omega) _
        exact HB3.out
set_option maxHeartbeats 4000000 in
theorem rp_dimsY (a op : ByteArray) (b off N c : Nat) (w : World) (hl : N ≤ 1000) (h4 : 3 < N) (hcap : N ≤ c) (hcm : c ≤ maxLen) (ha0 : a.size ≤ 1000000) (hc0 : w.cell? ⟨b, off, none⟩ = some (.string a)) (hc1 : w.cell? ⟨b, off + 1, none⟩ = some (.string ⟨#[61]⟩)) (hc2 : w.cell? ⟨b, off + 2, none⟩ = some (.string op)) (ha : ari op = 1) (hd : knd op = 3) (hs : 3 + 1 ≤ N) (hn : nmb a = true) (xs : List ByteArray) (o3 : Nat) (ho3 : (if c = 3 then some (⟨b, off, none⟩ : Addr) else some ⟨b, off + 3, none⟩) = some ⟨b, o3, none⟩) (hargs : ∀ k, k < 1 → w.cell? ⟨b, o3 + k, none⟩ = some (.string (xs.getD k em))) (hxs : ∀ k, k < 1 → (xs.getD k em).size ≤ 1000000) (hall : ∀ k, k < 1 → nmb (xs.getD k em) = true) (o4 : Nat) (ho4 : (if c = 4 then some (⟨b, off, none⟩ : Addr) else some ⟨b, off + 4, none⟩) = some ⟨b, o4, none⟩) (dq : Option (List Int)) (hF : ∀ v, Below w.heap.size w v → Calls Tryz.prog 16 #[.slice (some ⟨b, o4, none⟩) (N - 4) (c - 4)] v fun e w' => ∃ a2 m2 c2, e = .returned (.tuple #[.slice a2 m2 c2, .bool true]) ∧ Dk w' v.heap.size a2 m2 dq ∧ Below v.heap.size v w') :
    Calls Tryz.prog 7 #[.slice (some ⟨b, off, none⟩) N c] w fun e w' => (∃ a2 m2 c2, e = .returned (.tuple #[sv a op (.slice (some ⟨b, o3, none⟩) 1 (c - 3)) (.slice a2 m2 c2) em 0 nils, .bool true]) ∧ Dk w' w.heap.size a2 m2 dq) ∧ Below w.heap.size w w' := by
  have hN := fun w => Lx.refName_any a w ha0
  unfold nmb at hn
  rw [hn] at hN
  have HX : Hid _ := hxs
  have HFF : Hid _ := hF
  clear hF
  have hg : ∀ v, Below w.heap.size w v → ∀ k, k < 1 → v.cell? ⟨b, o3 + k, none⟩ = some (.string (xs.getD k em)) := fun v hv k hk => cell_below hv (hargs k hk)
  have HG : Hid _ := hg
  clear hg hxs hargs
  have hnm : Hid _ := hall
  clear hall
  have hK := kind_any op
  rw [ha, hd] at hK
  have hl0 : b < w.heap.size := row_lt hc0
  have hB0 : Below w.heap.size w (w.alloc (.cells z7 32)) := (Below.refl _ _).alloc (Nat.le_refl _) _
  go_enter Tryz.func7, Tryz.ntmps7
  go_wp2_with fail
  refine (hK _).mono ?_
  rintro e w1 ⟨rfl, h1⟩
  clear hK
  simp only [Int.natCast_one, Int.cast_ofNat_Int]
  have hBw : Below w.heap.size w w1 := hB0.trans (h1.mono (by simp))
  have x0 : w1.cell? ⟨b, off, none⟩ = some (.string a) := cell_below hBw hc0
  have x2 : w1.cell? ⟨b, off + 2, none⟩ = some (.string op) := cell_below hBw hc2
  have HW1 : Hid (Below w.heap.size w w1) := hBw
  obtain ⟨q0, q1, q2, q3, q4, q5, q6, f1, -⟩ := own7 (r := 32) h1
  have hs1 : w.heap.size < w1.heap.size := by have := h1.size; simp at this; omega
  have hbl : b < w1.heap.size := row_lt x0
  have hbn : b ≠ w1.heap.size := Nat.ne_of_lt hbl
  have h2N : (2 : Int) < (N : Int) := by omega
  have h0N : (0 : Int) < (N : Int) := by omega
  clear hc0 hc1 hc2 hBw h1 hB0
  go_wp2_with fail
  refine (hN _).mono ?_
  rintro e w2 ⟨rfl, rfl⟩
  clear hN
  go_wp2_with fail
  go_region
  clear x0 x2
  go_wp2_with fail
  go_loop [7] (fun i => ∃ k : Nat, k ≤ 1 ∧ i = .int .i64 (k : Int) ∧ ∀ j, j < k → nmb (xs.getD j em) = true) (fun i => 1 - (intOf i).toNat)
  case atStart => exact ⟨0, by omega, rfl, fun j hj => by omega⟩
  case round =>
    obtain ⟨k, hk, rfl, hj⟩ := hrel
    have HJ : Hid _ := hj
    clear hj
    by_cases h : k < 1
    · have hc := HG.out w2 HW1.out k h
      have hsz := HX.out k h
      obtain ⟨x, hx⟩ : ∃ z, xs.getD k em = z := ⟨_, rfl⟩
      rw [hx] at hc hsz
      have HXk : Hid _ := hx
      clear hx
      go_wp2_with fail
      refine (Lx.refName_any x _ hsz).mono ?_
      rintro e w3 ⟨rfl, rfl⟩
      obtain ⟨r, hr⟩ : ∃ r, Lx.nm x.data.toList = r := ⟨_, rfl⟩
      have HRa : Hid (nmb x = r) := hr
      rw [hr]
      clear hr
      cases r with
      | true =>
        go_wp2
        go_round
        case rel =>
          refine ⟨k + 1, by omega, by go_num, fun j hj => ?_⟩
          by_cases e : j = k
          · rw [e, HXk.out]; exact HRa.out
          · exact HJ.out j (by omega)
        case measure => simp [intOf]; omega
      | false =>
        exfalso
        have := hnm.out k h
        rw [HXk.out, HRa.out] at this
        cases this
    · obtain rfl : k = 1 := by omega
      clear HJ h hk HX HG hnm
      have hB2 : Below w.heap.size w ((w2.alloc (.cells #[.string a, .string op, .slice (some ⟨b, o3, none⟩) 1 (c - 3), .slice none 0 0, .string ⟨#[]⟩, .int .i64 0, .slice none 0 0] 32)).drew) := (HW1.out.alloc HW1.out.size _).drew
      go_wp2_with fail
      refine (HFF.out _ hB2).mono ?_
      rintro e w3 ⟨a2, m2, c2, rfl, hDk, h3⟩
      have HDk : Hid _ := hDk
      clear hDk
      have h3' := (Below.drew (Below.refl (w2.alloc (.cells #[.string a, .string op, .slice (some ⟨b, o3, none⟩) 1 (c - 3), .slice none 0 0, .string ⟨#[]⟩, .int .i64 0, .slice none 0 0] 32)).heap.size (w2.alloc (.cells #[.string a, .string op, .slice (some ⟨b, o3, none⟩) 1 (c - 3), .slice none 0 0, .string ⟨#[]⟩, .int .i64 0, .slice none 0 0] 32)))).trans h3
      obtain ⟨p1, pf, hBx⟩ := own1 h3'
      have p0 := p1 0
      have p1' := p1 1
      have p2 := p1 2
      have p3 := p1 3
      have p4 := p1 4
      have p5 := p1 5
      have p6 := p1 6
      simp at p0 p1' p2 p3 p4 p5 p6
      have r0 := cell_below hBx q0
      have r1 := cell_below hBx q1
      have r2 := cell_below hBx q2
      have r3 := cell_below hBx q3
      have r4 := cell_below hBx q4
      have r5 := cell_below hBx q5
      have r6 := cell_below hBx q6
      have rf : ∀ i, w3.frozen? ⟨w.heap.size, i, none⟩ = false := fun i => frozen_below hBx hs1 (f1 i)
      have HB3 : Hid (Below w.heap.size w w3) := HW1.out.trans (hBx.mono HW1.out.size)
      have hs2 : w.heap.size ≠ w2.heap.size := Nat.ne_of_lt hs1
      clear p1 hBx h3 h3' q0 q1 q2 q3 q4 q5 q6 f1
      go_wp2
      refine bodyPost_ret (v := .tuple #[sv a op (.slice (some ⟨b, o3, none⟩) 1 (c - 3)) (.slice a2 m2 c2) em 0 nils, .bool true]) ?_ rfl ⟨⟨a2, m2, c2, rfl, ?_⟩, ?_⟩
      · simp [results, Tryz.results7, go_sem, hs2, Ne.symm hs2, r0, r1, r2, r3, r4, r5, r6, p0, p1', p2, p3, p4, p5, p6]
      · refine Dk.mono (B := w2.heap.size + 1) ?_ (by have := HW1.out.size; omega)
        iterate 8 refine Dk.set ?_ (by simp <;> omega) _
        exact Dk.mono HDk.out (by simp)
      · iterate 8 refine Below.setCell ?_ (by have := HW1.out.size; simp <;> omega) _
        exact HB3.out
set_option maxHeartbeats 4000000 in
theorem rp_dimsN (a op : ByteArray) (b off N c : Nat) (w : World) (hl : N ≤ 1000) (h4 : 3 < N) (hcap : N ≤ c) (hcm : c ≤ maxLen) (ha0 : a.size ≤ 1000000) (hc0 : w.cell? ⟨b, off, none⟩ = some (.string a)) (hc1 : w.cell? ⟨b, off + 1, none⟩ = some (.string ⟨#[61]⟩)) (hc2 : w.cell? ⟨b, off + 2, none⟩ = some (.string op)) (ha : ari op = 1) (hd : knd op = 3) (hs : 3 + 1 ≤ N) (hn : nmb a = true) (xs : List ByteArray) (o3 : Nat) (ho3 : (if c = 3 then some (⟨b, off, none⟩ : Addr) else some ⟨b, off + 3, none⟩) = some ⟨b, o3, none⟩) (hargs : ∀ k, k < 1 → w.cell? ⟨b, o3 + k, none⟩ = some (.string (xs.getD k em))) (hxs : ∀ k, k < 1 → (xs.getD k em).size ≤ 1000000) (hall : ∀ k, k < 1 → nmb (xs.getD k em) = true) (o4 : Nat) (ho4 : (if c = 4 then some (⟨b, off, none⟩ : Addr) else some ⟨b, off + 4, none⟩) = some ⟨b, o4, none⟩) (dq : Option (List Int)) (hF : ∀ v, Below w.heap.size w v → Calls Tryz.prog 16 #[.slice (some ⟨b, o4, none⟩) (N - 4) (c - 4)] v fun e w' => ∃ a2 m2 c2, e = .returned (.tuple #[.slice a2 m2 c2, .bool false]) ∧ Dk w' v.heap.size a2 m2 dq ∧ Below v.heap.size v w') :
    Calls Tryz.prog 7 #[.slice (some ⟨b, off, none⟩) N c] w fun e w' => (e = .returned (.tuple #[zv, .bool false])) ∧ Below w.heap.size w w' := by
  have hN := fun w => Lx.refName_any a w ha0
  unfold nmb at hn
  rw [hn] at hN
  have HX : Hid _ := hxs
  have HFF : Hid _ := hF
  clear hF
  have hg : ∀ v, Below w.heap.size w v → ∀ k, k < 1 → v.cell? ⟨b, o3 + k, none⟩ = some (.string (xs.getD k em)) := fun v hv k hk => cell_below hv (hargs k hk)
  have HG : Hid _ := hg
  clear hg hxs hargs
  have hnm : Hid _ := hall
  clear hall
  have hK := kind_any op
  rw [ha, hd] at hK
  have hl0 : b < w.heap.size := row_lt hc0
  have hB0 : Below w.heap.size w (w.alloc (.cells z7 32)) := (Below.refl _ _).alloc (Nat.le_refl _) _
  go_enter Tryz.func7, Tryz.ntmps7
  go_wp2_with fail
  refine (hK _).mono ?_
  rintro e w1 ⟨rfl, h1⟩
  clear hK
  simp only [Int.natCast_one, Int.cast_ofNat_Int]
  have hBw : Below w.heap.size w w1 := hB0.trans (h1.mono (by simp))
  have x0 : w1.cell? ⟨b, off, none⟩ = some (.string a) := cell_below hBw hc0
  have x2 : w1.cell? ⟨b, off + 2, none⟩ = some (.string op) := cell_below hBw hc2
  have HW1 : Hid (Below w.heap.size w w1) := hBw
  obtain ⟨q0, q1, q2, q3, q4, q5, q6, f1, -⟩ := own7 (r := 32) h1
  have hs1 : w.heap.size < w1.heap.size := by have := h1.size; simp at this; omega
  have hbl : b < w1.heap.size := row_lt x0
  have hbn : b ≠ w1.heap.size := Nat.ne_of_lt hbl
  have h2N : (2 : Int) < (N : Int) := by omega
  have h0N : (0 : Int) < (N : Int) := by omega
  clear hc0 hc1 hc2 hBw h1 hB0
  go_wp2_with fail
  refine (hN _).mono ?_
  rintro e w2 ⟨rfl, rfl⟩
  clear hN
  go_wp2_with fail
  go_region
  clear x0 x2
  go_wp2_with fail
  go_loop [7] (fun i => ∃ k : Nat, k ≤ 1 ∧ i = .int .i64 (k : Int) ∧ ∀ j, j < k → nmb (xs.getD j em) = true) (fun i => 1 - (intOf i).toNat)
  case atStart => exact ⟨0, by omega, rfl, fun j hj => by omega⟩
  case round =>
    obtain ⟨k, hk, rfl, hj⟩ := hrel
    have HJ : Hid _ := hj
    clear hj
    by_cases h : k < 1
    · have hc := HG.out w2 HW1.out k h
      have hsz := HX.out k h
      obtain ⟨x, hx⟩ : ∃ z, xs.getD k em = z := ⟨_, rfl⟩
      rw [hx] at hc hsz
      have HXk : Hid _ := hx
      clear hx
      go_wp2_with fail
      refine (Lx.refName_any x _ hsz).mono ?_
      rintro e w3 ⟨rfl, rfl⟩
      obtain ⟨r, hr⟩ : ∃ r, Lx.nm x.data.toList = r := ⟨_, rfl⟩
      have HRa : Hid (nmb x = r) := hr
      rw [hr]
      clear hr
      cases r with
      | true =>
        go_wp2
        go_round
        case rel =>
          refine ⟨k + 1, by omega, by go_num, fun j hj => ?_⟩
          by_cases e : j = k
          · rw [e, HXk.out]; exact HRa.out
          · exact HJ.out j (by omega)
        case measure => simp [intOf]; omega
      | false =>
        exfalso
        have := hnm.out k h
        rw [HXk.out, HRa.out] at this
        cases this
    · obtain rfl : k = 1 := by omega
      clear HJ h hk HX HG hnm
      have hB2 : Below w.heap.size w ((w2.alloc (.cells #[.string a, .string op, .slice (some ⟨b, o3, none⟩) 1 (c - 3), .slice none 0 0, .string ⟨#[]⟩, .int .i64 0, .slice none 0 0] 32)).drew) := (HW1.out.alloc HW1.out.size _).drew
      go_wp2_with fail
      refine (HFF.out _ hB2).mono ?_
      rintro e w3 ⟨a2, m2, c2, rfl, hDk, h3⟩
      have HDk : Hid _ := hDk
      clear hDk
      have h3' := (Below.drew (Below.refl (w2.alloc (.cells #[.string a, .string op, .slice (some ⟨b, o3, none⟩) 1 (c - 3), .slice none 0 0, .string ⟨#[]⟩, .int .i64 0, .slice none 0 0] 32)).heap.size (w2.alloc (.cells #[.string a, .string op, .slice (some ⟨b, o3, none⟩) 1 (c - 3), .slice none 0 0, .string ⟨#[]⟩, .int .i64 0, .slice none 0 0] 32)))).trans h3
      obtain ⟨p1, pf, hBx⟩ := own1 h3'
      have p0 := p1 0
      have p1' := p1 1
      have p2 := p1 2
      have p3 := p1 3
      have p4 := p1 4
      have p5 := p1 5
      have p6 := p1 6
      simp at p0 p1' p2 p3 p4 p5 p6
      have r0 := cell_below hBx q0
      have r1 := cell_below hBx q1
      have r2 := cell_below hBx q2
      have r3 := cell_below hBx q3
      have r4 := cell_below hBx q4
      have r5 := cell_below hBx q5
      have r6 := cell_below hBx q6
      have rf : ∀ i, w3.frozen? ⟨w.heap.size, i, none⟩ = false := fun i => frozen_below hBx hs1 (f1 i)
      have HB3 : Hid (Below w.heap.size w w3) := HW1.out.trans (hBx.mono HW1.out.size)
      have hs2 : w.heap.size ≠ w2.heap.size := Nat.ne_of_lt hs1
      clear p1 hBx h3 h3' q0 q1 q2 q3 q4 q5 q6 f1
      go_wp2
      refine bodyPost_ret (v := .tuple #[zv, .bool false]) ?_ rfl ⟨rfl, ?_⟩
      · simp [results, Tryz.results7, go_sem, hs2, Ne.symm hs2, r0, r1, r2, r3, r4, r5, r6, p0, p1', p2, p3, p4, p5, p6]
      · iterate 8 refine Below.setCell ?_ (by have := HW1.out.size; simp <;> omega) _
        exact HB3.out
set_option maxHeartbeats 4000000 in
theorem rp_powY (a op : ByteArray) (b off N c : Nat) (w : World) (hl : N ≤ 1000) (h4 : 3 < N) (hcap : N ≤ c) (hcm : c ≤ maxLen) (ha0 : a.size ≤ 1000000) (hc0 : w.cell? ⟨b, off, none⟩ = some (.string a)) (hc1 : w.cell? ⟨b, off + 1, none⟩ = some (.string ⟨#[61]⟩)) (hc2 : w.cell? ⟨b, off + 2, none⟩ = some (.string op)) (ha : ari op = 1) (hd : knd op = 2) (hs : 3 + 1 ≤ N) (hn : nmb a = true) (xs : List ByteArray) (o3 : Nat) (ho3 : (if c = 3 then some (⟨b, off, none⟩ : Addr) else some ⟨b, off + 3, none⟩) = some ⟨b, o3, none⟩) (hargs : ∀ k, k < 1 → w.cell? ⟨b, o3 + k, none⟩ = some (.string (xs.getD k em))) (hxs : ∀ k, k < 1 → (xs.getD k em).size ≤ 1000000) (hall : ∀ k, k < 1 → nmb (xs.getD k em) = true) (o4 : Nat) (ho4 : (if c = 4 then some (⟨b, off, none⟩ : Addr) else some ⟨b, off + 4, none⟩) = some ⟨b, o4, none⟩) (hN : N = 5) (x : ByteArray) (hx : w.cell? ⟨b, o4, none⟩ = some (.string x)) (v : Nat) (hv : numv x.data.toList = v) (hr : nok x.data.toList = true) (h6 : decide ((v : Int) < 7) = true) :
    Calls Tryz.prog 7 #[.slice (some ⟨b, off, none⟩) N c] w fun e w' => (e = .returned (.tuple #[sv a op (.slice (some ⟨b, o3, none⟩) 1 (c - 3)) nils em v nils, .bool true])) ∧ Below w.heap.size w w' := by
  subst hN
  have hN := fun w => Lx.refName_any a w ha0
  unfold nmb at hn
  rw [hn] at hN
  have HX : Hid _ := hxs
  have hg : ∀ v, Below w.heap.size w v → ∀ k, k < 1 → v.cell? ⟨b, o3 + k, none⟩ = some (.string (xs.getD k em)) := fun v hv k hk => cell_below hv (hargs k hk)
  have HG : Hid _ := hg
  clear hg hxs hargs
  have hnm : Hid _ := hall
  clear hall
  have hK := kind_any op
  rw [ha, hd] at hK
  have hl0 : b < w.heap.size := row_lt hc0
  have hB0 : Below w.heap.size w (w.alloc (.cells z7 32)) := (Below.refl _ _).alloc (Nat.le_refl _) _
  go_enter Tryz.func7, Tryz.ntmps7
  go_wp2_with fail
  refine (hK _).mono ?_
  rintro e w1 ⟨rfl, h1⟩
  clear hK
  simp only [Int.natCast_one, Int.cast_ofNat_Int]
  have hBw : Below w.heap.size w w1 := hB0.trans (h1.mono (by simp))
  have x0 : w1.cell? ⟨b, off, none⟩ = some (.string a) := cell_below hBw hc0
  have x2 : w1.cell? ⟨b, off + 2, none⟩ = some (.string op) := cell_below hBw hc2
  have HW1 : Hid (Below w.heap.size w w1) := hBw
  obtain ⟨q0, q1, q2, q3, q4, q5, q6, f1, -⟩ := own7 (r := 32) h1
  have hs1 : w.heap.size < w1.heap.size := by have := h1.size; simp at this; omega
  have hbl : b < w1.heap.size := row_lt x0
  have hbn : b ≠ w1.heap.size := Nat.ne_of_lt hbl
  clear hc0 hc1 hc2 hBw h1 hB0
  go_wp2_with fail
  refine (hN _).mono ?_
  rintro e w2 ⟨rfl, rfl⟩
  clear hN
  go_wp2_with fail
  go_region
  clear x0 x2
  go_wp2_with fail
  go_loop [7] (fun i => ∃ k : Nat, k ≤ 1 ∧ i = .int .i64 (k : Int) ∧ ∀ j, j < k → nmb (xs.getD j em) = true) (fun i => 1 - (intOf i).toNat)
  case atStart => exact ⟨0, by omega, rfl, fun j hj => by omega⟩
  case round =>
    obtain ⟨k, hk, rfl, hj⟩ := hrel
    have HJ : Hid _ := hj
    clear hj
    by_cases h : k < 1
    · have hc := HG.out w2 HW1.out k h
      have hsz := HX.out k h
      obtain ⟨x, hx⟩ : ∃ z, xs.getD k em = z := ⟨_, rfl⟩
      rw [hx] at hc hsz
      have HXk : Hid _ := hx
      clear hx
      go_wp2_with fail
      refine (Lx.refName_any x _ hsz).mono ?_
      rintro e w3 ⟨rfl, rfl⟩
      obtain ⟨r, hr⟩ : ∃ r, Lx.nm x.data.toList = r := ⟨_, rfl⟩
      have HRa : Hid (nmb x = r) := hr
      rw [hr]
      clear hr
      cases r with
      | true =>
        go_wp2
        go_round
        case rel =>
          refine ⟨k + 1, by omega, by go_num, fun j hj => ?_⟩
          by_cases e : j = k
          · rw [e, HXk.out]; exact HRa.out
          · exact HJ.out j (by omega)
        case measure => simp [intOf]; omega
      | false =>
        exfalso
        have := hnm.out k h
        rw [HXk.out, HRa.out] at this
        cases this
    · obtain rfl : k = 1 := by omega
      clear HJ h hk HX HG hnm
      obtain rfl : o4 = off + 4 := by
        rw [if_neg (by omega)] at ho4
        simpa using ho4.symm
      have hxx := cell_below HW1.out hx
      go_wp2_with fail
      refine (refNumber_any x _).mono ?_
      rintro e w3 ⟨rfl, rfl⟩
      rw [hv, hr]
      go_wp2
      refine bodyPost_ret (v := .tuple #[sv a op (.slice (some ⟨b, o3, none⟩) 1 (c - 3)) nils em v nils, .bool true]) ?_ rfl ⟨rfl, ?_⟩
      · simp [results, Tryz.results7, go_sem, hs1, Nat.ne_of_lt hs1, q0, q1, q2, q3, q4, q5, q6]
      · refine Below.drew (Below.alloc ?_ (by have := HW1.out.size; simp; omega) _)
        iterate 7 refine Below.setCell ?_ (by simp) _
        exact HW1.out
set_option maxHeartbeats 4000000 in
theorem rp_powN (a op : ByteArray) (b off N c : Nat) (w : World) (hl : N ≤ 1000) (h4 : 3 < N) (hcap : N ≤ c) (hcm : c ≤ maxLen) (ha0 : a.size ≤ 1000000) (hc0 : w.cell? ⟨b, off, none⟩ = some (.string a)) (hc1 : w.cell? ⟨b, off + 1, none⟩ = some (.string ⟨#[61]⟩)) (hc2 : w.cell? ⟨b, off + 2, none⟩ = some (.string op)) (ha : ari op = 1) (hd : knd op = 2) (hs : 3 + 1 ≤ N) (hn : nmb a = true) (xs : List ByteArray) (o3 : Nat) (ho3 : (if c = 3 then some (⟨b, off, none⟩ : Addr) else some ⟨b, off + 3, none⟩) = some ⟨b, o3, none⟩) (hargs : ∀ k, k < 1 → w.cell? ⟨b, o3 + k, none⟩ = some (.string (xs.getD k em))) (hxs : ∀ k, k < 1 → (xs.getD k em).size ≤ 1000000) (hall : ∀ k, k < 1 → nmb (xs.getD k em) = true) (o4 : Nat) (ho4 : (if c = 4 then some (⟨b, off, none⟩ : Addr) else some ⟨b, off + 4, none⟩) = some ⟨b, o4, none⟩) (hN : N = 5) (x : ByteArray) (hx : w.cell? ⟨b, o4, none⟩ = some (.string x)) (v : Nat) (hv : numv x.data.toList = v) (hr : nok x.data.toList = true) (h6 : decide ((v : Int) < 7) = false) :
    Calls Tryz.prog 7 #[.slice (some ⟨b, off, none⟩) N c] w fun e w' => (e = .returned (.tuple #[zv, .bool false])) ∧ Below w.heap.size w w' := by
  subst hN
  have hN := fun w => Lx.refName_any a w ha0
  unfold nmb at hn
  rw [hn] at hN
  have HX : Hid _ := hxs
  have hg : ∀ v, Below w.heap.size w v → ∀ k, k < 1 → v.cell? ⟨b, o3 + k, none⟩ = some (.string (xs.getD k em)) := fun v hv k hk => cell_below hv (hargs k hk)
  have HG : Hid _ := hg
  clear hg hxs hargs
  have hnm : Hid _ := hall
  clear hall
  have hK := kind_any op
  rw [ha, hd] at hK
  have hl0 : b < w.heap.size := row_lt hc0
  have hB0 : Below w.heap.size w (w.alloc (.cells z7 32)) := (Below.refl _ _).alloc (Nat.le_refl _) _
  go_enter Tryz.func7, Tryz.ntmps7
  go_wp2_with fail
  refine (hK _).mono ?_
  rintro e w1 ⟨rfl, h1⟩
  clear hK
  simp only [Int.natCast_one, Int.cast_ofNat_Int]
  have hBw : Below w.heap.size w w1 := hB0.trans (h1.mono (by simp))
  have x0 : w1.cell? ⟨b, off, none⟩ = some (.string a) := cell_below hBw hc0
  have x2 : w1.cell? ⟨b, off + 2, none⟩ = some (.string op) := cell_below hBw hc2
  have HW1 : Hid (Below w.heap.size w w1) := hBw
  obtain ⟨q0, q1, q2, q3, q4, q5, q6, f1, -⟩ := own7 (r := 32) h1
  have hs1 : w.heap.size < w1.heap.size := by have := h1.size; simp at this; omega
  have hbl : b < w1.heap.size := row_lt x0
  have hbn : b ≠ w1.heap.size := Nat.ne_of_lt hbl
  clear hc0 hc1 hc2 hBw h1 hB0
  go_wp2_with fail
  refine (hN _).mono ?_
  rintro e w2 ⟨rfl, rfl⟩
  clear hN
  go_wp2_with fail
  go_region
  clear x0 x2
  go_wp2_with fail
  go_loop [7] (fun i => ∃ k : Nat, k ≤ 1 ∧ i = .int .i64 (k : Int) ∧ ∀ j, j < k → nmb (xs.getD j em) = true) (fun i => 1 - (intOf i).toNat)
  case atStart => exact ⟨0, by omega, rfl, fun j hj => by omega⟩
  case round =>
    obtain ⟨k, hk, rfl, hj⟩ := hrel
    have HJ : Hid _ := hj
    clear hj
    by_cases h : k < 1
    · have hc := HG.out w2 HW1.out k h
      have hsz := HX.out k h
      obtain ⟨x, hx⟩ : ∃ z, xs.getD k em = z := ⟨_, rfl⟩
      rw [hx] at hc hsz
      have HXk : Hid _ := hx
      clear hx
      go_wp2_with fail
      refine (Lx.refName_any x _ hsz).mono ?_
      rintro e w3 ⟨rfl, rfl⟩
      obtain ⟨r, hr⟩ : ∃ r, Lx.nm x.data.toList = r := ⟨_, rfl⟩
      have HRa : Hid (nmb x = r) := hr
      rw [hr]
      clear hr
      cases r with
      | true =>
        go_wp2
        go_round
        case rel =>
          refine ⟨k + 1, by omega, by go_num, fun j hj => ?_⟩
          by_cases e : j = k
          · rw [e, HXk.out]; exact HRa.out
          · exact HJ.out j (by omega)
        case measure => simp [intOf]; omega
      | false =>
        exfalso
        have := hnm.out k h
        rw [HXk.out, HRa.out] at this
        cases this
    · obtain rfl : k = 1 := by omega
      clear HJ h hk HX HG hnm
      obtain rfl : o4 = off + 4 := by
        rw [if_neg (by omega)] at ho4
        simpa using ho4.symm
      have hxx := cell_below HW1.out hx
      go_wp2_with fail
      refine (refNumber_any x _).mono ?_
      rintro e w3 ⟨rfl, rfl⟩
      rw [hv, hr]
      go_wp2
      refine bodyPost_ret (v := .tuple #[zv, .bool false]) ?_ rfl ⟨rfl, ?_⟩
      · simp [results, Tryz.results7, go_sem, hs1, Nat.ne_of_lt hs1, q0, q1, q2, q3, q4, q5, q6]
      · refine Below.drew (Below.alloc ?_ (by have := HW1.out.size; simp; omega) _)
        iterate 7 refine Below.setCell ?_ (by simp) _
        exact HW1.out
set_option maxHeartbeats 4000000 in
theorem rp_powX (a op : ByteArray) (b off N c : Nat) (w : World) (hl : N ≤ 1000) (h4 : 3 < N) (hcap : N ≤ c) (hcm : c ≤ maxLen) (ha0 : a.size ≤ 1000000) (hc0 : w.cell? ⟨b, off, none⟩ = some (.string a)) (hc1 : w.cell? ⟨b, off + 1, none⟩ = some (.string ⟨#[61]⟩)) (hc2 : w.cell? ⟨b, off + 2, none⟩ = some (.string op)) (ha : ari op = 1) (hd : knd op = 2) (hs : 3 + 1 ≤ N) (hn : nmb a = true) (xs : List ByteArray) (o3 : Nat) (ho3 : (if c = 3 then some (⟨b, off, none⟩ : Addr) else some ⟨b, off + 3, none⟩) = some ⟨b, o3, none⟩) (hargs : ∀ k, k < 1 → w.cell? ⟨b, o3 + k, none⟩ = some (.string (xs.getD k em))) (hxs : ∀ k, k < 1 → (xs.getD k em).size ≤ 1000000) (hall : ∀ k, k < 1 → nmb (xs.getD k em) = true) (o4 : Nat) (ho4 : (if c = 4 then some (⟨b, off, none⟩ : Addr) else some ⟨b, off + 4, none⟩) = some ⟨b, o4, none⟩) (hN : N = 5) (x : ByteArray) (hx : w.cell? ⟨b, o4, none⟩ = some (.string x)) (v : Nat) (hv : numv x.data.toList = v) (hr : nok x.data.toList = false) :
    Calls Tryz.prog 7 #[.slice (some ⟨b, off, none⟩) N c] w fun e w' => (e = .returned (.tuple #[zv, .bool false])) ∧ Below w.heap.size w w' := by
  subst hN
  have hN := fun w => Lx.refName_any a w ha0
  unfold nmb at hn
  rw [hn] at hN
  have HX : Hid _ := hxs
  have hg : ∀ v, Below w.heap.size w v → ∀ k, k < 1 → v.cell? ⟨b, o3 + k, none⟩ = some (.string (xs.getD k em)) := fun v hv k hk => cell_below hv (hargs k hk)
  have HG : Hid _ := hg
  clear hg hxs hargs
  have hnm : Hid _ := hall
  clear hall
  have hK := kind_any op
  rw [ha, hd] at hK
  have hl0 : b < w.heap.size := row_lt hc0
  have hB0 : Below w.heap.size w (w.alloc (.cells z7 32)) := (Below.refl _ _).alloc (Nat.le_refl _) _
  go_enter Tryz.func7, Tryz.ntmps7
  go_wp2_with fail
  refine (hK _).mono ?_
  rintro e w1 ⟨rfl, h1⟩
  clear hK
  simp only [Int.natCast_one, Int.cast_ofNat_Int]
  have hBw : Below w.heap.size w w1 := hB0.trans (h1.mono (by simp))
  have x0 : w1.cell? ⟨b, off, none⟩ = some (.string a) := cell_below hBw hc0
  have x2 : w1.cell? ⟨b, off + 2, none⟩ = some (.string op) := cell_below hBw hc2
  have HW1 : Hid (Below w.heap.size w w1) := hBw
  obtain ⟨q0, q1, q2, q3, q4, q5, q6, f1, -⟩ := own7 (r := 32) h1
  have hs1 : w.heap.size < w1.heap.size := by have := h1.size; simp at this; omega
  have hbl : b < w1.heap.size := row_lt x0
  have hbn : b ≠ w1.heap.size := Nat.ne_of_lt hbl
  clear hc0 hc1 hc2 hBw h1 hB0
  go_wp2_with fail
  refine (hN _).mono ?_
  rintro e w2 ⟨rfl, rfl⟩
  clear hN
  go_wp2_with fail
  go_region
  clear x0 x2
  go_wp2_with fail
  go_loop [7] (fun i => ∃ k : Nat, k ≤ 1 ∧ i = .int .i64 (k : Int) ∧ ∀ j, j < k → nmb (xs.getD j em) = true) (fun i => 1 - (intOf i).toNat)
  case atStart => exact ⟨0, by omega, rfl, fun j hj => by omega⟩
  case round =>
    obtain ⟨k, hk, rfl, hj⟩ := hrel
    have HJ : Hid _ := hj
    clear hj
    by_cases h : k < 1
    · have hc := HG.out w2 HW1.out k h
      have hsz := HX.out k h
      obtain ⟨x, hx⟩ : ∃ z, xs.getD k em = z := ⟨_, rfl⟩
      rw [hx] at hc hsz
      have HXk : Hid _ := hx
      clear hx
      go_wp2_with fail
      refine (Lx.refName_any x _ hsz).mono ?_
      rintro e w3 ⟨rfl, rfl⟩
      obtain ⟨r, hr⟩ : ∃ r, Lx.nm x.data.toList = r := ⟨_, rfl⟩
      have HRa : Hid (nmb x = r) := hr
      rw [hr]
      clear hr
      cases r with
      | true =>
        go_wp2
        go_round
        case rel =>
          refine ⟨k + 1, by omega, by go_num, fun j hj => ?_⟩
          by_cases e : j = k
          · rw [e, HXk.out]; exact HRa.out
          · exact HJ.out j (by omega)
        case measure => simp [intOf]; omega
      | false =>
        exfalso
        have := hnm.out k h
        rw [HXk.out, HRa.out] at this
        cases this
    · obtain rfl : k = 1 := by omega
      clear HJ h hk HX HG hnm
      obtain rfl : o4 = off + 4 := by
        rw [if_neg (by omega)] at ho4
        simpa using ho4.symm
      have hxx := cell_below HW1.out hx
      go_wp2_with fail
      refine (refNumber_any x _).mono ?_
      rintro e w3 ⟨rfl, rfl⟩
      rw [hv, hr]
      go_wp2
      refine bodyPost_ret (v := .tuple #[zv, .bool false]) ?_ rfl ⟨rfl, ?_⟩
      · simp [results, Tryz.results7, go_sem, hs1, Nat.ne_of_lt hs1, q0, q1, q2, q3, q4, q5, q6]
      · refine Below.drew (Below.alloc ?_ (by have := HW1.out.size; simp; omega) _)
        iterate 7 refine Below.setCell ?_ (by simp) _
        exact HW1.out
end Go.Proofs.YtokfkmncabmmcaaGreatDoor.Rd
