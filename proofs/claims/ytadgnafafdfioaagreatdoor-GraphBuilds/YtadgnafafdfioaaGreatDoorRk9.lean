/-
  A STATEMENT OF ITS OWN WORD: const. Conditions: each theorem's own.
-/
import Derived.Test.YtadgnafafdfioaaGreatDoorRj9
namespace Go.Proofs.YtadgnafafdfioaaGreatDoor.Rd
set_option maxRecDepth 100000
open Go.RowKit Nm
set_option linter.unusedVariables false
set_option linter.unusedSimpArgs false

set_option maxHeartbeats 2000000 in
theorem con_none (b off N c : Nat) (a x : ByteArray) (w : World) (hl : N ≤ 1000000) (hN2 : 2 ≤ N) (hcap : N ≤ c) (hcm : c ≤ maxLen) (hc0 : w.cell? ⟨b, off, none⟩ = some (.string a)) (hc1 : w.cell? ⟨b, off + 1, none⟩ = some (.string x)) (hI : ∀ v, Below w.heap.size w v → Calls Tryz.prog 80 #[.slice (some ⟨b, off, none⟩) N c, .string ⟨#[61]⟩] v fun e w' => e = .returned (.int .i64 (-1)) ∧ w' = v) :
    Calls Tryz.prog 62 #[.slice (some ⟨b, off, none⟩) N c] w fun e w' => (e = .returned (.tuple #[zv, .bool false])) ∧ Below w.heap.size w w' := by
  have hB0 : Below w.heap.size w (w.alloc (.cells z7 41)) := (Below.refl _ _).alloc (Nat.le_refl _) _
  have hI1 := hI _ hB0
  clear hI
  have hl0 : b < w.heap.size := row_lt hc0
  go_enter Tryz.func62, Tryz.ntmps62
  go_wp2_with fail
  refine hI1.mono ?_
  rintro e w0 ⟨rfl, rfl⟩
  clear hI1
  go_wp2
  refine bodyPost_ret (v := .tuple #[zv, .bool false]) ?_ rfl ⟨rfl, ?_⟩
  · simp [results, Tryz.results62, go_sem]
  · exact hB0
set_option maxHeartbeats 2000000 in
theorem con_name (b off N c : Nat) (a x : ByteArray) (w : World) (hl : N ≤ 1000000) (hN2 : 2 ≤ N) (hcap : N ≤ c) (hcm : c ≤ maxLen) (hc0 : w.cell? ⟨b, off, none⟩ = some (.string a)) (hc1 : w.cell? ⟨b, off + 1, none⟩ = some (.string x)) (j : Nat) (hj2 : 2 ≤ j) (hj : j < N) (hI : ∀ v, Below w.heap.size w v → Calls Tryz.prog 80 #[.slice (some ⟨b, off, none⟩) N c, .string ⟨#[61]⟩] v fun e w' => e = .returned (.int .i64 ((j : Int))) ∧ w' = v) (hn : nmb x = false) :
    Calls Tryz.prog 62 #[.slice (some ⟨b, off, none⟩) N c] w fun e w' => (e = .returned (.tuple #[zv, .bool false])) ∧ Below w.heap.size w w' := by
  have hB0 : Below w.heap.size w (w.alloc (.cells z7 41)) := (Below.refl _ _).alloc (Nat.le_refl _) _
  have hI1 := hI _ hB0
  clear hI
  have hl0 : b < w.heap.size := row_lt hc0
  have hN := Lx.name_any x
  unfold nmb at hn
  rw [hn] at hN
  go_enter Tryz.func62, Tryz.ntmps62
  go_wp2_with fail
  refine hI1.mono ?_
  rintro e w0 ⟨rfl, rfl⟩
  clear hI1
  go_wp2_with fail
  refine (hN _).mono ?_
  rintro e w0 ⟨rfl, rfl⟩
  clear hN
  go_wp2
  refine bodyPost_ret (v := .tuple #[zv, .bool false]) ?_ rfl ⟨rfl, ?_⟩
  · simp [results, Tryz.results62, go_sem]
  · exact hB0
set_option maxHeartbeats 2000000 in
theorem con_dims (b off N c : Nat) (a x : ByteArray) (w : World) (hl : N ≤ 1000000) (hN2 : 2 ≤ N) (hcap : N ≤ c) (hcm : c ≤ maxLen) (hc0 : w.cell? ⟨b, off, none⟩ = some (.string a)) (hc1 : w.cell? ⟨b, off + 1, none⟩ = some (.string x)) (j : Nat) (hj2 : 2 ≤ j) (hj : j < N) (hI : ∀ v, Below w.heap.size w v → Calls Tryz.prog 80 #[.slice (some ⟨b, off, none⟩) N c, .string ⟨#[61]⟩] v fun e w' => e = .returned (.int .i64 ((j : Int))) ∧ w' = v) (hn : nmb x = true) (dv : List Int) (hD : ∀ A, Ag b off c 2 A → ∀ v, Below w.heap.size w v → Calls Tryz.prog 79 #[.slice (some A) (j - 2) (c - 2)] v fun e w' => ∃ u, e = .returned (.tuple #[u, .bool false]) ∧ Od w' v.heap.size u dv ∧ Below v.heap.size v w') :
    Calls Tryz.prog 62 #[.slice (some ⟨b, off, none⟩) N c] w fun e w' => (e = .returned (.tuple #[zv, .bool false])) ∧ Below w.heap.size w w' := by
  have hB0 : Below w.heap.size w (w.alloc (.cells z7 41)) := (Below.refl _ _).alloc (Nat.le_refl _) _
  have hI1 := hI _ hB0
  clear hI
  have hl0 : b < w.heap.size := row_lt hc0
  have hN := Lx.name_any x
  unfold nmb at hn
  rw [hn] at hN
  obtain ⟨o1, ho1⟩ := ag_some b off c 2
  have HD : Hid _ := hD ⟨b, o1, none⟩ ho1
  clear hD
  obtain ⟨o2, ho2⟩ := ag_some b off c (j + 1)
  go_enter Tryz.func62, Tryz.ntmps62
  go_wp2_with fail
  refine hI1.mono ?_
  rintro e w0 ⟨rfl, rfl⟩
  clear hI1
  go_wp2_with fail
  refine (hN _).mono ?_
  rintro e w0 ⟨rfl, rfl⟩
  clear hN
  go_wp2_with fail
  refine (HD.out _ hB0).mono ?_
  rintro e w1 ⟨u, rfl, hO, h1⟩
  have hx1 : w1.cell? ⟨b, off + 1, none⟩ = some (.string x) := cell_below (hB0.trans (h1.mono (by simp))) hc1
  have hx0 : w1.cell? ⟨b, off, none⟩ = some (.string a) := cell_below (hB0.trans (h1.mono (by simp))) hc0
  clear hc0 hc1
  have HO : Hid _ := Lx.own_mono hO (show w.heap.size + 1 ≤ _ by simp)
  obtain ⟨a2, c2, rfl, hSl⟩ := hO.form
  clear hO HD
  have HSl : Hid _ := hSl
  have HH1 : Hid _ := h1
  clear hSl
  obtain ⟨q0, q1, q2, q3, q4, q5, q6, f1, hB⟩ := own7 (r := 41) h1
  have HB : Hid _ := hB
  clear hB h1
  clear hx0 hx1
  go_wp2
  refine bodyPost_ret (v := .tuple #[zv, .bool false]) ?_ rfl ⟨rfl, ?_⟩
  · simp [results, Tryz.results62, go_sem, q0, q1, q2, q3, q4, q5, q6]
  · iterate 7 refine Below.setCell ?_ (by simp) _
    exact HB.out
set_option maxHeartbeats 2000000 in
theorem con_len (b off N c : Nat) (a x : ByteArray) (w : World) (hl : N ≤ 1000000) (hN2 : 2 ≤ N) (hcap : N ≤ c) (hcm : c ≤ maxLen) (hc0 : w.cell? ⟨b, off, none⟩ = some (.string a)) (hc1 : w.cell? ⟨b, off + 1, none⟩ = some (.string x)) (j : Nat) (hj2 : 2 ≤ j) (hj : j < N) (hI : ∀ v, Below w.heap.size w v → Calls Tryz.prog 80 #[.slice (some ⟨b, off, none⟩) N c, .string ⟨#[61]⟩] v fun e w' => e = .returned (.int .i64 ((j : Int))) ∧ w' = v) (hn : nmb x = true) (dv : List Int) (hD : ∀ A, Ag b off c 2 A → ∀ v, Below w.heap.size w v → Calls Tryz.prog 79 #[.slice (some A) (j - 2) (c - 2)] v fun e w' => ∃ u, e = .returned (.tuple #[u, .bool true]) ∧ Od w' v.heap.size u dv ∧ Below v.heap.size v w') (m : Nat) (hm : m ≤ 64) (hS : ∀ a2 c2 v, Sp.Sl v a2 dv → Calls Tryz.prog 39 #[.slice a2 dv.length c2] v fun e w' => e = .returned (.int .i64 (m : Int)) ∧ w' = v) (hq : (((N - (j + 1) : Nat) : Int) != (m : Int)) = true) :
    Calls Tryz.prog 62 #[.slice (some ⟨b, off, none⟩) N c] w fun e w' => (e = .returned (.tuple #[zv, .bool false])) ∧ Below w.heap.size w w' := by
  have hB0 : Below w.heap.size w (w.alloc (.cells z7 41)) := (Below.refl _ _).alloc (Nat.le_refl _) _
  have hI1 := hI _ hB0
  clear hI
  have hl0 : b < w.heap.size := row_lt hc0
  have hN := Lx.name_any x
  unfold nmb at hn
  rw [hn] at hN
  obtain ⟨o1, ho1⟩ := ag_some b off c 2
  have HD : Hid _ := hD ⟨b, o1, none⟩ ho1
  clear hD
  obtain ⟨o2, ho2⟩ := ag_some b off c (j + 1)
  have HS : Hid _ := hS
  clear hS
  go_enter Tryz.func62, Tryz.ntmps62
  go_wp2_with fail
  refine hI1.mono ?_
  rintro e w0 ⟨rfl, rfl⟩
  clear hI1
  go_wp2_with fail
  refine (hN _).mono ?_
  rintro e w0 ⟨rfl, rfl⟩
  clear hN
  go_wp2_with fail
  refine (HD.out _ hB0).mono ?_
  rintro e w1 ⟨u, rfl, hO, h1⟩
  have hx1 : w1.cell? ⟨b, off + 1, none⟩ = some (.string x) := cell_below (hB0.trans (h1.mono (by simp))) hc1
  have hx0 : w1.cell? ⟨b, off, none⟩ = some (.string a) := cell_below (hB0.trans (h1.mono (by simp))) hc0
  clear hc0 hc1
  have HO : Hid _ := Lx.own_mono hO (show w.heap.size + 1 ≤ _ by simp)
  obtain ⟨a2, c2, rfl, hSl⟩ := hO.form
  clear hO HD
  have HSl : Hid _ := hSl
  have HH1 : Hid _ := h1
  clear hSl
  go_wp2_with fail
  refine (HS.out _ _ _ HSl.out).mono ?_
  rintro e w0 ⟨rfl, rfl⟩
  obtain ⟨q0, q1, q2, q3, q4, q5, q6, f1, hB⟩ := own7 (r := 41) h1
  have HB : Hid _ := hB
  clear hB h1
  clear hx0 hx1
  go_wp2
  refine bodyPost_ret (v := .tuple #[zv, .bool false]) ?_ rfl ⟨rfl, ?_⟩
  · simp [results, Tryz.results62, go_sem, q0, q1, q2, q3, q4, q5, q6]
  · iterate 7 refine Below.setCell ?_ (by simp) _
    exact HB.out
set_option maxHeartbeats 2000000 in
theorem con_rat (b off N c : Nat) (a x : ByteArray) (w : World) (hl : N ≤ 1000000) (hN2 : 2 ≤ N) (hcap : N ≤ c) (hcm : c ≤ maxLen) (hc0 : w.cell? ⟨b, off, none⟩ = some (.string a)) (hc1 : w.cell? ⟨b, off + 1, none⟩ = some (.string x)) (j : Nat) (hj2 : 2 ≤ j) (hj : j < N) (hI : ∀ v, Below w.heap.size w v → Calls Tryz.prog 80 #[.slice (some ⟨b, off, none⟩) N c, .string ⟨#[61]⟩] v fun e w' => e = .returned (.int .i64 ((j : Int))) ∧ w' = v) (hn : nmb x = true) (dv : List Int) (hD : ∀ A, Ag b off c 2 A → ∀ v, Below w.heap.size w v → Calls Tryz.prog 79 #[.slice (some A) (j - 2) (c - 2)] v fun e w' => ∃ u, e = .returned (.tuple #[u, .bool true]) ∧ Od w' v.heap.size u dv ∧ Below v.heap.size v w') (m : Nat) (hm : m ≤ 64) (hS : ∀ a2 c2 v, Sp.Sl v a2 dv → Calls Tryz.prog 39 #[.slice a2 dv.length c2] v fun e w' => e = .returned (.int .i64 (m : Int)) ∧ w' = v) (hq : (((N - (j + 1) : Nat) : Int) != (m : Int)) = false) (hA : ∀ A, Ag b off c (j + 1) A → ∀ v, Below w.heap.size w v → Calls Tryz.prog 77 #[.slice (some A) (N - (j + 1)) (c - (j + 1)), .func (.func 50) #[] #[]] v fun e w' => e = .returned (.bool false) ∧ Below v.heap.size v w') :
    Calls Tryz.prog 62 #[.slice (some ⟨b, off, none⟩) N c] w fun e w' => (e = .returned (.tuple #[zv, .bool false])) ∧ Below w.heap.size w w' := by
  have hB0 : Below w.heap.size w (w.alloc (.cells z7 41)) := (Below.refl _ _).alloc (Nat.le_refl _) _
  have hI1 := hI _ hB0
  clear hI
  have hl0 : b < w.heap.size := row_lt hc0
  have hN := Lx.name_any x
  unfold nmb at hn
  rw [hn] at hN
  obtain ⟨o1, ho1⟩ := ag_some b off c 2
  have HD : Hid _ := hD ⟨b, o1, none⟩ ho1
  clear hD
  obtain ⟨o2, ho2⟩ := ag_some b off c (j + 1)
  have HS : Hid _ := hS
  clear hS
  have HA : Hid _ := hA ⟨b, o2, none⟩ ho2
  clear hA
  go_enter Tryz.func62, Tryz.ntmps62
  go_wp2_with fail
  refine hI1.mono ?_
  rintro e w0 ⟨rfl, rfl⟩
  clear hI1
  go_wp2_with fail
  refine (hN _).mono ?_
  rintro e w0 ⟨rfl, rfl⟩
  clear hN
  go_wp2_with fail
  refine (HD.out _ hB0).mono ?_
  rintro e w1 ⟨u, rfl, hO, h1⟩
  have hx1 : w1.cell? ⟨b, off + 1, none⟩ = some (.string x) := cell_below (hB0.trans (h1.mono (by simp))) hc1
  have hx0 : w1.cell? ⟨b, off, none⟩ = some (.string a) := cell_below (hB0.trans (h1.mono (by simp))) hc0
  clear hc0 hc1
  have HO : Hid _ := Lx.own_mono hO (show w.heap.size + 1 ≤ _ by simp)
  obtain ⟨a2, c2, rfl, hSl⟩ := hO.form
  clear hO HD
  have HSl : Hid _ := hSl
  have HH1 : Hid _ := h1
  clear hSl
  go_wp2_with fail
  refine (HS.out _ _ _ HSl.out).mono ?_
  rintro e w0 ⟨rfl, rfl⟩
  go_wp2_with fail
  refine (HA.out _ (hB0.trans (HH1.out.mono (by simp)))).mono ?_
  rintro e w2 ⟨rfl, h2⟩
  have hy1 : w2.cell? ⟨b, off + 1, none⟩ = some (.string x) := cell_below h2 hx1
  have hy0 : w2.cell? ⟨b, off, none⟩ = some (.string a) := cell_below h2 hx0
  have HO2 : Hid _ := Lx.own_below HO.out h2
  clear hx0 hx1 h1
  have h1 := HH1.out.trans (h2.mono HH1.out.size)
  clear h2
  obtain ⟨q0, q1, q2, q3, q4, q5, q6, f1, hB⟩ := own7 (r := 41) h1
  have HB : Hid _ := hB
  clear hB h1
  clear hy0 hy1
  go_wp2
  refine bodyPost_ret (v := .tuple #[zv, .bool false]) ?_ rfl ⟨rfl, ?_⟩
  · simp [results, Tryz.results62, go_sem, q0, q1, q2, q3, q4, q5, q6]
  · iterate 7 refine Below.setCell ?_ (by simp) _
    exact HB.out
set_option maxHeartbeats 2000000 in
theorem con_yes (b off N c : Nat) (a x : ByteArray) (w : World) (hl : N ≤ 1000000) (hN2 : 2 ≤ N) (hcap : N ≤ c) (hcm : c ≤ maxLen) (hc0 : w.cell? ⟨b, off, none⟩ = some (.string a)) (hc1 : w.cell? ⟨b, off + 1, none⟩ = some (.string x)) (j : Nat) (hj2 : 2 ≤ j) (hj : j < N) (hI : ∀ v, Below w.heap.size w v → Calls Tryz.prog 80 #[.slice (some ⟨b, off, none⟩) N c, .string ⟨#[61]⟩] v fun e w' => e = .returned (.int .i64 ((j : Int))) ∧ w' = v) (hn : nmb x = true) (dv : List Int) (hD : ∀ A, Ag b off c 2 A → ∀ v, Below w.heap.size w v → Calls Tryz.prog 79 #[.slice (some A) (j - 2) (c - 2)] v fun e w' => ∃ u, e = .returned (.tuple #[u, .bool true]) ∧ Od w' v.heap.size u dv ∧ Below v.heap.size v w') (m : Nat) (hm : m ≤ 64) (hS : ∀ a2 c2 v, Sp.Sl v a2 dv → Calls Tryz.prog 39 #[.slice a2 dv.length c2] v fun e w' => e = .returned (.int .i64 (m : Int)) ∧ w' = v) (hq : (((N - (j + 1) : Nat) : Int) != (m : Int)) = false) (hA : ∀ A, Ag b off c (j + 1) A → ∀ v, Below w.heap.size w v → Calls Tryz.prog 77 #[.slice (some A) (N - (j + 1)) (c - (j + 1)), .func (.func 50) #[] #[]] v fun e w' => e = .returned (.bool true) ∧ Below v.heap.size v w') (ds : List ByteArray) (hlen : ds.length = N - (j + 1)) (hC : ∀ A, Ag b off c (j + 1) A → ∀ v, Below w.heap.size w v → Calls Tryz.prog 66 #[.slice (some A) (N - (j + 1)) (c - (j + 1))] v fun e w' => ∃ u, e = .returned u ∧ w'.ownsRow v.heap.size 9 1 u ds.length (txts ds) ∧ Below v.heap.size v w') :
    Calls Tryz.prog 62 #[.slice (some ⟨b, off, none⟩) N c] w fun e w' => (∃ u t, e = .returned (.tuple #[sv x a nils u em 0 t, .bool true]) ∧ Od w' w.heap.size u dv ∧ Ob w' w.heap.size t ds) ∧ Below w.heap.size w w' := by
  have hB0 : Below w.heap.size w (w.alloc (.cells z7 41)) := (Below.refl _ _).alloc (Nat.le_refl _) _
  have hI1 := hI _ hB0
  clear hI
  have hl0 : b < w.heap.size := row_lt hc0
  have hN := Lx.name_any x
  unfold nmb at hn
  rw [hn] at hN
  obtain ⟨o1, ho1⟩ := ag_some b off c 2
  have HD : Hid _ := hD ⟨b, o1, none⟩ ho1
  clear hD
  obtain ⟨o2, ho2⟩ := ag_some b off c (j + 1)
  have HS : Hid _ := hS
  clear hS
  have HA : Hid _ := hA ⟨b, o2, none⟩ ho2
  clear hA
  have HC : Hid _ := hC ⟨b, o2, none⟩ ho2
  clear hC
  go_enter Tryz.func62, Tryz.ntmps62
  go_wp2_with fail
  refine hI1.mono ?_
  rintro e w0 ⟨rfl, rfl⟩
  clear hI1
  go_wp2_with fail
  refine (hN _).mono ?_
  rintro e w0 ⟨rfl, rfl⟩
  clear hN
  go_wp2_with fail
  refine (HD.out _ hB0).mono ?_
  rintro e w1 ⟨u, rfl, hO, h1⟩
  have hx1 : w1.cell? ⟨b, off + 1, none⟩ = some (.string x) := cell_below (hB0.trans (h1.mono (by simp))) hc1
  have hx0 : w1.cell? ⟨b, off, none⟩ = some (.string a) := cell_below (hB0.trans (h1.mono (by simp))) hc0
  clear hc0 hc1
  have HO : Hid _ := Lx.own_mono hO (show w.heap.size + 1 ≤ _ by simp)
  obtain ⟨a2, c2, rfl, hSl⟩ := hO.form
  clear hO HD
  have HSl : Hid _ := hSl
  have HH1 : Hid _ := h1
  clear hSl
  go_wp2_with fail
  refine (HS.out _ _ _ HSl.out).mono ?_
  rintro e w0 ⟨rfl, rfl⟩
  go_wp2_with fail
  refine (HA.out _ (hB0.trans (HH1.out.mono (by simp)))).mono ?_
  rintro e w2 ⟨rfl, h2⟩
  have hy1 : w2.cell? ⟨b, off + 1, none⟩ = some (.string x) := cell_below h2 hx1
  have hy0 : w2.cell? ⟨b, off, none⟩ = some (.string a) := cell_below h2 hx0
  have HO2 : Hid _ := Lx.own_below HO.out h2
  clear hx0 hx1 h1
  have h1 := HH1.out.trans (h2.mono HH1.out.size)
  clear h2
  have HH2 : Hid _ := h1
  clear h1
  go_wp2_with fail
  go_region_with (go_at_call 66; refine (HC.out _ (bl_drew (hB0.trans (HH2.out.mono (by simp))))).mono ?_; rintro e w3 ⟨t, rfl, hT, h3⟩; have hz1 := cell_below (bl_trans (bl_drew (Below.refl w2.heap.size w2)) h3) hy1; have hz0 := cell_below (bl_trans (bl_drew (Below.refl w2.heap.size w2)) h3) hy0; have HO3 : Hid _ := Lx.own_below HO2.out (bl_trans (bl_drew (Below.refl w2.heap.size w2)) h3); have HT : Hid _ := Lx.own_mono hT (show w.heap.size + 1 ≤ _ by have := HH2.out.size; simp at this ⊢; omega); have h1 := HH2.out.trans ((bl_trans (bl_drew (Below.refl w2.heap.size w2)) h3).mono HH2.out.size); obtain ⟨q0, q1, q2, q3, q4, q5, q6, f1, hB⟩ := own7 (r := 41) h1; have HB : Hid _ := hB; rw [hlen] at hT; obtain ⟨a3, c3, rfl, -⟩ := Row.of_own hT; clear hT h3 hB h1)
  all_goals go_wp2
  all_goals refine bodyPost_ret (v := .tuple #[sv x a nils (.slice a2 dv.length c2) em 0 (.slice a3 (N - (j + 1)) c3), .bool true]) (by simp [results, Tryz.results62, go_sem, q0, q1, q2, q3, q4, q5, q6] ) rfl ⟨⟨_, _, rfl, ?_, ?_⟩, ?_⟩
  all_goals first
    | (refine Lx.own_mono (base := w.heap.size + 1) ?_ (by omega)
       iterate 7 refine own_set ?_ (by simp) _
       first | exact HO3.out | exact HT.out)
    | (iterate 7 refine Below.setCell ?_ (by simp) _
       exact HB.out)
end Go.Proofs.YtadgnafafdfioaaGreatDoor.Rd
