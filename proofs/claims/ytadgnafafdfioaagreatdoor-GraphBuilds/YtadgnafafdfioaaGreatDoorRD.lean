/-
  A STATEMENT OF ITS OWN WORD: const. Conditions: each theorem's own.
-/
import Derived.Test.YtadgnafafdfioaaGreatDoorRB
namespace Go.Proofs.YtadgnafafdfioaaGreatDoor.Rd
set_option maxRecDepth 100000
open Go.RowKit Nm
set_option linter.unusedVariables false
set_option linter.unusedSimpArgs false

set_option maxHeartbeats 2000000 in
theorem con_none (b off N c : Nat) (a x : ByteArray) (w : World) (hl : N ≤ 1000000) (hN2 : 2 ≤ N) (hcap : N ≤ c) (hcm : c ≤ maxLen) (hc0 : w.cell? ⟨b, off, none⟩ = some (.string a)) (hc1 : w.cell? ⟨b, off + 1, none⟩ = some (.string x)) (hI : ∀ v, Below w.heap.size w v → Calls Tryz.prog 80 #[.slice (some ⟨b, off, none⟩) N c, .string ⟨#[61]⟩] v fun e w' => e = .returned (.int .i64 (-1)) ∧ w' = v) :
    Calls Tryz.prog 62 #[.slice (some ⟨b, off, none⟩) N c] w fun e w' => (e = .returned (.tuple #[zv, .bool false])) ∧ Below w.heap.size w w' := by
  have hB0 : Below w.heap.size w (w.alloc (.cells z7 41)) := (Below.refl _ _).alloc (Nat.le_refl _) _
  have hI1 := hI _ hB0
  clear hI
  have hl0 : b < w.heap.size := row_lt hc0
  go_enter Tryz.func62, Tryz.ntmps62
  go_wp2_with fail
  refine hI1.mono ?_
  rintro e w0 ⟨rfl, rfl⟩
  clear hI1
  go_wp2
  refine bodyPost_ret (v := .tuple #[zv, .bool false]) ?_ rfl ⟨rfl, ?_⟩
  · simp [results, Tryz.results62, go_sem]
  · exact hB0
set_option maxHeartbeats 2000000 in
theorem con_name (b off N c : Nat) (a x : ByteArray) (w : World) (hl : N ≤ 1000000) (hN2 : 2 ≤ N) (hcap : N ≤ c) (hcm : c ≤ maxLen) (hc0 : w.cell? ⟨b, off, none⟩ = some (.string a)) (hc1 : w.cell? ⟨b, off + 1, none⟩ = some (.string x)) (j : Nat) (hj2 : 2 ≤ j) (hj : j < N) (hI : ∀ v, Below w.heap.size w v → Calls Tryz.prog 80 #[.slice (some ⟨b, off, none⟩) N c, .string ⟨#[61]⟩] v fun e w' => e = .returned (.int .i64 ((j : Int))) ∧ w' = v) (hn : nmb x = false) :
    Calls Tryz.prog 62 #[.slice (some ⟨b, off, none⟩) N c] w fun e w' => (e = .returned (.tuple #[zv, .bool false])) ∧ Below w.heap.size w w' := by
  have hB0 : Below w.heap.size w (w.alloc (.cells z7 41)) := (Below.refl _ _).alloc (Nat.le_refl _) _
  have hI1 := hI _ hB0
  clear hI
  have hl0 : b < w.heap.size := row_lt hc0
  have hN := Lx.name_any x
  unfold nmb at hn
  rw [hn] at hN
  go_enter Tryz.func62, Tryz.ntmps62
  go_wp2_with fail
  refine hI1.mono ?_
  rintro e w0 ⟨rfl, rfl⟩
  clear hI1
  go_wp2_with fail
  refine (hN _).mono ?_
  rintro e w0 ⟨rfl, rfl⟩
  clear hN
  go_wp2
  refine bodyPost_ret (v := .tuple #[zv, .bool false]) ?_ rfl ⟨rfl, ?_⟩
  · simp [results, Tryz.results62, go_sem]
  · exact hB0
set_option maxHeartbeats 2000000 in
theorem con_dims (b off N c : Nat) (a x : ByteArray) (w : World) (hl : N ≤ 1000000) (hN2 : 2 ≤ N) (hcap : N ≤ c) (hcm : c ≤ maxLen) (hc0 : w.cell? ⟨b, off, none⟩ = some (.string a)) (hc1 : w.cell? ⟨b, off + 1, none⟩ = some (.string x)) (j : Nat) (hj2 : 2 ≤ j) (hj : j < N) (hI : ∀ v, Below w.heap.size w v → Calls Tryz.prog 80 #[.slice (some ⟨b, off, none⟩) N c, .string ⟨#[61]⟩] v fun e w' => e = .returned (.int .i64 ((j : Int))) ∧ w' = v) (hn : nmb x = true) (dv : List Int) (hD : ∀ A, Ag b off c 2 A → ∀ v, Below w.heap.size w v → Calls Tryz.prog 79 #[.slice (some A) (j - 2) (c - 2)] v fun e w' => ∃ u, e = .returned (.tuple #[u, .bool false]) ∧ Od w' v.heap.size u dv ∧ Below v.heap.size v w') :
    Calls Tryz.prog 62 #[.slice (some ⟨b, off, none⟩) N c] w fun e w' => (e = .returned (.tuple #[zv, .bool false])) ∧ Below w.heap.size w w' := by
  have hB0 : Below w.heap.size w (w.alloc (.cells z7 41)) := (Below.refl _ _).alloc (Nat.le_refl _) _
  have hI1 := hI _ hB0
  clear hI
  have hl0 : b < w.heap.size := row_lt hc0
  have hN := Lx.name_any x
  unfold nmb at hn
  rw [hn] at hN
  obtain ⟨o1, ho1⟩ := ag_some b off c 2
  have HD : Hid _ := hD ⟨b, o1, none⟩ ho1
  clear hD
  obtain ⟨o2, ho2⟩ := ag_some b off c (j + 1)
  go_enter Tryz.func62, Tryz.ntmps62
  go_wp2_with fail
  refine hI1.mono ?_
  rintro e w0 ⟨rfl, rfl⟩
  clear hI1
  go_wp2_with fail
  refine (hN _).mono ?_
  rintro e w0 ⟨rfl, rfl⟩
  clear hN
  go_wp2_with fail
  refine (HD.out _ hB0).mono ?_
  rintro e w1 ⟨u, rfl, hO, h1⟩
  have hx1 : w1.cell? ⟨b, off + 1, none⟩ = some (.string x) := cell_below (hB0.trans (h1.mono (by simp))) hc1
  have hx0 : w1.cell? ⟨b, off, none⟩ = some (.string a) := cell_below (hB0.trans (h1.mono (by simp))) hc0
  clear hc0 hc1
  have HO : Hid _ := Lx.own_mono hO (show w.heap.size + 1 ≤ _ by simp)
  obtain ⟨a2, c2, rfl, hSl⟩ := hO.form
  clear hO HD
  have HSl : Hid _ := hSl
  have HH1 : Hid _ := h1
  clear hSl
  obtain ⟨q0, q1, q2, q3, q4, q5, q6, f1, hB⟩ := own7 (r := 41) h1
  have HB : Hid _ := hB
  clear hB h1
  clear hx0 hx1
  go_wp2
  refine bodyPost_ret (v := .tuple #[zv, .bool false]) ?_ rfl ⟨rfl, ?_⟩
  · simp [results, Tryz.results62, go_sem, q0, q1, q2, q3, q4, q5, q6]
  · iterate 7 refine Below.setCell ?_ (by simp) _
    exact HB.out
set_option maxHeartbeats 2000000 in
theorem con_len (b off N c : Nat) (a x : ByteArray) (w : World) (hl : N ≤ 1000000) (hN2 : 2 ≤ N) (hcap : N ≤ c) (hcm : c ≤ maxLen) (hc0 : w.cell? ⟨b, off, none⟩ = some (.string a)) (hc1 : w.cell? ⟨b, off + 1, none⟩ = some (.string x)) (j : Nat) (hj2 : 2 ≤ j) (hj : j < N) (hI : ∀ v, Below w.heap.size w v → Calls Tryz.prog 80 #[.slice (some ⟨b, off, none⟩) N c, .string ⟨#[61]⟩] v fun e w' => e = .returned (.int .i64 ((j : Int))) ∧ w' = v) (hn : nmb x = true) (dv : List Int) (hD : ∀ A, Ag b off c 2 A → ∀ v, Below w.heap.size w v → Calls Tryz.prog 79 #[.slice (some A) (j - 2) (c - 2)] v fun e w' => ∃ u, e = .returned (.tuple #[u, .bool true]) ∧ Od w' v.heap.size u dv ∧ Below v.heap.size v w') (m : Nat) (hm : m ≤ 64) (hS : ∀ a2 c2 v, Sp.Sl v a2 dv → Calls Tryz.prog 39 #[.slice a2 dv.length c2] v fun e w' => e = .returned (.int .i64 (m : Int)) ∧ w' = v) (hq : (((N - (j + 1) : Nat) : Int) != (m : Int)) = true) :
    Calls Tryz.prog 62 #[.slice (some ⟨b, off, none⟩) N c] w fun e w' => (e = .returned (.tuple #[zv, .bool false])) ∧ Below w.heap.size w w' := by
  have hB0 : Below w.heap.size w (w.alloc (.cells z7 41)) := (Below.refl _ _).alloc (Nat.le_refl _) _
  have hI1 := hI _ hB0
  clear hI
  have hl0 : b < w.heap.size := row_lt hc0
  have hN := Lx.name_any x
  unfold nmb at hn
  rw [hn] at hN
  obtain ⟨o1, ho1⟩ := ag_some b off c 2
  have HD : Hid _ := hD ⟨b, o1, none⟩ ho1
  clear hD
  obtain ⟨o2, ho2⟩ := ag_some b off c (j + 1)
  have HS : Hid _ := hS
  clear hS
  go_enter Tryz.func62, Tryz.ntmps62
  go_wp2_with fail
  refine hI1.mono ?_
  rintro e w0 ⟨rfl, rfl⟩
  clear hI1
  go_wp2_with fail
  refine (hN _).mono ?_
  rintro e w0 ⟨rfl, rfl⟩
  clear hN
  go_wp2_with fail
  refine (HD.out _ hB0).mono ?_
  rintro e w1 ⟨u, rfl, hO, h1⟩
  have hx1 : w1.cell? ⟨b, off + 1, none⟩ = some (.string x) := cell_below (hB0.trans (h1.mono (by simp))) hc1
  have hx0 : w1.cell? ⟨b, off, none⟩ = some (.string a) := cell_below (hB0.trans (h1.mono (by simp))) hc0
  clear hc0 hc1
  have HO : Hid _ := Lx.own_mono hO (show w.heap.size + 1 ≤ _ by simp)
  obtain ⟨a2, c2, rfl, hSl⟩ := hO.form
  clear hO HD
  have HSl : Hid _ := hSl
  have HH1 : Hid _ := h1
  clear hSl
  go_wp2_with fail
  refine (HS.out _ _ _ HSl.out).mono ?_
  rintro e w0 ⟨rfl, rfl⟩
  obtain ⟨q0, q1, q2, q3, q4, q5, q6, f1, hB⟩ := own7 (r := 41) h1
  have HB : Hid _ := hB
  clear hB h1
  clear hx0 hx1
  go_wp2
  refine bodyPost_ret (v := .tuple #[zv, .bool false]) ?_ rfl ⟨rfl, ?_⟩
  · simp [results, Tryz.results62, go_sem, q0, q1, q2, q3, q4, q5, q6]
  · iterate 7 refine Below.setCell ?_ (by simp) _
    exact HB.out
set_option maxHeartbeats 2000000 in
theorem con_rat (b off N c : Nat) (a x : ByteArray) (w : World) (hl : N ≤ 1000000) (hN2 : 2 ≤ N) (hcap : N ≤ c) (hcm : c ≤ maxLen) (hc0 : w.cell? ⟨b, off, none⟩ = some (.string a)) (hc1 : w.cell? ⟨b, off + 1, none⟩ = some (.string x)) (j : Nat) (hj2 : 2 ≤ j) (hj : j < N) (hI : ∀ v, Below w.heap.size w v → Calls Tryz.prog 80 #[.slice (some ⟨b, off, none⟩) N c, .string ⟨#[61]⟩] v fun e w' => e = .returned (.int .i64 ((j : Int))) ∧ w' = v) (hn : nmb x = true) (dv : List Int) (hD : ∀ A, Ag b off c 2 A → ∀ v, Below w.heap.size w v → Calls Tryz.prog 79 #[.slice (some A) (j - 2) (c - 2)] v fun e w' => ∃ u, e = .returned (.tuple #[u, .bool true]) ∧ Od w' v.heap.size u dv ∧ Below v.heap.size v w') (m : Nat) (hm : m ≤ 64) (hS : ∀ a2 c2 v, Sp.Sl v a2 dv → Calls Tryz.prog 39 #[.slice a2 dv.length c2] v fun e w' => e = .returned (.int .i64 (m : Int)) ∧ w' = v) (hq : (((N - (j + 1) : Nat) : Int) != (m : Int)) = false) (hA : ∀ A, Ag b off c (j + 1) A → ∀ v, Below w.heap.size w v → Calls Tryz.prog 77 #[.slice (some A) (N - (j + 1)) (c - (j + 1)), .func (.func 50) #[] #[]] v fun e w' => e = .returned (.bool false) ∧ Below v.heap.size v w') :
    Calls Tryz.prog 62 #[.slice (some ⟨b, off, none⟩) N c] w fun e w' => (e = .returned (.tuple #[zv, .bool false])) ∧ Below w.heap.size w w' := by
  have hB0 : Below w.heap.size w (w.alloc (.cells z7 41)) := (Below.refl _ _).alloc (Nat.le_refl _) _
  have hI1 := hI _ hB0
  clear hI
  have hl0 : b < w.heap.size := row_lt hc0
  have hN := Lx.name_any x
  unfold nmb at hn
  rw [hn] at hN
  obtain ⟨o1, ho1⟩ := ag_some b off c 2
  have HD : Hid _ := hD ⟨b, o1, none⟩ ho1
  clear hD
  obtain ⟨o2, ho2⟩ := ag_some b off c (j + 1)
  have HS : Hid _ := hS
  clear hS
  have HA : Hid _ := hA ⟨b, o2, none⟩ ho2
  clear hA
  go_enter Tryz.func62, Tryz.ntmps62
  go_wp2_with fail
  refine hI1.mono ?_
  rintro e w0 ⟨rfl, rfl⟩
  clear hI1
  go_wp2_with fail
  refine (hN _).mono ?_
  rintro e w0 ⟨rfl, rfl⟩
  clear hN
  go_wp2_with fail
  refine (HD.out _ hB0).mono ?_
  rintro e w1 ⟨u, rfl, hO, h1⟩
  have hx1 : w1.cell? ⟨b, off + 1, none⟩ = some (.string x) := cell_below (hB0.trans (h1.mono (by simp))) hc1
  have hx0 : w1.cell? ⟨b, off, none⟩ = some (.string a) := cell_below (hB0.trans (h1.mono (by simp))) hc0
  clear hc0 hc1
  have HO : Hid _ := Lx.own_mono hO (show w.heap.size + 1 ≤ _ by simp)
  obtain ⟨a2, c2, rfl, hSl⟩ := hO.form
  clear hO HD
  have HSl : Hid _ := hSl
  have HH1 : Hid _ := h1
  clear hSl
  go_wp2_with fail
  refine (HS.out _ _ _ HSl.out).mono ?_
  rintro e w0 ⟨rfl, rfl⟩
  go_wp2_with fail
  refine (HA.out _ (hB0.trans (HH1.out.mono (by simp)))).mono ?_
  rintro e w2 ⟨rfl, h2⟩
  have hy1 : w2.cell? ⟨b, off + 1, none⟩ = some (.string x) := cell_below h2 hx1
  have hy0 : w2.cell? ⟨b, off, none⟩ = some (.string a) := cell_below h2 hx0
  have HO2 : Hid _ := Lx.own_below HO.out h2
  clear hx0 hx1 h1
  have h1 := HH1.out.trans (h2.mono HH1.out.size)
  clear h2
  obtain ⟨q0, q1, q2, q3, q4, q5, q6, f1, hB⟩ := own7 (r := 41) h1
  have HB : Hid _ := hB
  clear hB h1
  clear hy0 hy1
  go_wp2
  refine bodyPost_ret (v := .tuple #[zv, .bool false]) ?_ rfl ⟨rfl, ?_⟩
  · simp [results, Tryz.results62, go_sem, q0, q1, q2, q3, q4, q5, q6]
  · iterate 7 refine Below.setCell ?_ (by simp) _
    exact HB.out
set_option maxHeartbeats 2000000 in
theorem con_yes (b off N c : Nat) (a x : ByteArray) (w : World) (hl : N ≤ 1000000) (hN2 : 2 ≤ N) (hcap : N ≤ c) (hcm : c ≤ maxLen) (hc0 : w.cell? ⟨b, off, none⟩ = some (.string a)) (hc1 : w.cell? ⟨b, off + 1, none⟩ = some (.string x)) (j : Nat) (hj2 : 2 ≤ j) (hj : j < N) (hI : ∀ v, Below w.heap.size w v → Calls Tryz.prog 80 #[.slice (some ⟨b, off, none⟩) N c, .string ⟨#[61]⟩] v fun e w' => e = .returned (.int .i64 ((j : Int))) ∧ w' = v) (hn : nmb x = true) (dv : List Int) (hD : ∀ A, Ag b off c 2 A → ∀ v, Below w.heap.size w v → Calls Tryz.prog 79 #[.slice (some A) (j - 2) (c - 2)] v fun e w' => ∃ u, e = .returned (.tuple #[u, .bool true]) ∧ Od w' v.heap.size u dv ∧ Below v.heap.size v w') (m : Nat) (hm : m ≤ 64) (hS : ∀ a2 c2 v, Sp.Sl v a2 dv → Calls Tryz.prog 39 #[.slice a2 dv.length c2] v fun e w' => e = .returned (.int .i64 (m : Int)) ∧ w' = v) (hq : (((N - (j + 1) : Nat) : Int) != (m : Int)) = false) (hA : ∀ A, Ag b off c (j + 1) A → ∀ v, Below w.heap.size w v → Calls Tryz.prog 77 #[.slice (some A) (N - (j + 1)) (c - (j + 1)), .func (.func 50) #[] #[]] v fun e w' => e = .returned (.bool true) ∧ Below v.heap.size v w') (ds : List ByteArray) (hlen : ds.length = N - (j + 1)) (hC : ∀ A, Ag b off c (j + 1) A → ∀ v, Below w.heap.size w v → Calls Tryz.prog 66 #[.slice (some A) (N - (j + 1)) (c - (j + 1))] v fun e w' => ∃ u, e = .returned u ∧ w'.ownsRow v.heap.size 9 1 u ds.length (txts ds) ∧ Below v.heap.size v w') :
    Calls Tryz.prog 62 #[.slice (some ⟨b, off, none⟩) N c] w fun e w' => (∃ u t, e = .returned (.tuple #[sv x a nils u em 0 t, .bool true]) ∧ Od w' w.heap.size u dv ∧ Ob w' w.heap.size t ds) ∧ Below w.heap.size w w' := by
  have hB0 : Below w.heap.size w (w.alloc (.cells z7 41)) := (Below.refl _ _).alloc (Nat.le_refl _) _
  have hI1 := hI _ hB0
  clear hI
  have hl0 : b < w.heap.size := row_lt hc0
  have hN := Lx.name_any x
  unfold nmb at hn
  rw [hn] at hN
  obtain ⟨o1, ho1⟩ := ag_some b off c 2
  have HD : Hid _ := hD ⟨b, o1, none⟩ ho1
  clear hD
  obtain ⟨o2, ho2⟩ := ag_some b off c (j + 1)
  have HS : Hid _ := hS
  clear hS
  have HA : Hid _ := hA ⟨b, o2, none⟩ ho2
  clear hA
  have HC : Hid _ := hC ⟨b, o2, none⟩ ho2
  clear hC
  go_enter Tryz.func62, Tryz.ntmps62
  go_wp2_with fail
  refine hI1.mono ?_
  rintro e w0 ⟨rfl, rfl⟩
  clear hI1
  go_wp2_with fail
  refine (hN _).mono ?_
  rintro e w0 ⟨rfl, rfl⟩
  clear hN
  go_wp2_with fail
  refine (HD.out _ hB0).mono ?_
  rintro e w1 ⟨u, rfl, hO, h1⟩
  have hx1 : w1.cell? ⟨b, off + 1, none⟩ = some (.string x) := cell_below (hB0.trans (h1.mono (by simp))) hc1
  have hx0 : w1.cell? ⟨b, off, none⟩ = some (.string a) := cell_below (hB0.trans (h1.mono (by simp))) hc0
  clear hc0 hc1
  have HO : Hid _ := Lx.own_mono hO (show w.heap.size + 1 ≤ _ by simp)
  obtain ⟨a2, c2, rfl, hSl⟩ := hO.form
  clear hO HD
  have HSl : Hid _ := hSl
  have HH1 : Hid _ := h1
  clear hSl
  go_wp2_with fail
  refine (HS.out _ _ _ HSl.out).mono ?_
  rintro e w0 ⟨rfl, rfl⟩
  go_wp2_with fail
  refine (HA.out _ (hB0.trans (HH1.out.mono (by simp)))).mono ?_
  rintro e w2 ⟨rfl, h2⟩
  have hy1 : w2.cell? ⟨b, off + 1, none⟩ = some (.string x) := cell_below h2 hx1
  have hy0 : w2.cell? ⟨b, off, none⟩ = some (.string a) := cell_below h2 hx0
  have HO2 : Hid _ := Lx.own_below HO.out h2
  clear hx0 hx1 h1
  have h1 := HH1.out.trans (h2.mono HH1.out.size)
  clear h2
  have HH2 : Hid _ := h1
  clear h1
  go_wp2_with fail
  go_region_with (go_at_call 66; refine (HC.out _ (bl_drew (hB0.trans (HH2.out.mono (by simp))))).mono ?_; rintro e w3 ⟨t, rfl, hT, h3⟩; have hz1 := cell_below (bl_trans (bl_drew (Below.refl w2.heap.size w2)) h3) hy1; have hz0 := cell_below (bl_trans (bl_drew (Below.refl w2.heap.size w2)) h3) hy0; have HO3 : Hid _ := Lx.own_below HO2.out (bl_trans (bl_drew (Below.refl w2.heap.size w2)) h3); have HT : Hid _ := Lx.own_mono hT (show w.heap.size + 1 ≤ _ by have := HH2.out.size; simp at this ⊢; omega); have h1 := HH2.out.trans ((bl_trans (bl_drew (Below.refl w2.heap.size w2)) h3).mono HH2.out.size); obtain ⟨q0, q1, q2, q3, q4, q5, q6, f1, hB⟩ := own7 (r := 41) h1; have HB : Hid _ := hB; rw [hlen] at hT; obtain ⟨a3, c3, rfl, -⟩ := Row.of_own hT; clear hT h3 hB h1)
  all_goals go_wp2
  all_goals refine bodyPost_ret (v := .tuple #[sv x a nils (.slice a2 dv.length c2) em 0 (.slice a3 (N - (j + 1)) c3), .bool true]) (by simp [results, Tryz.results62, go_sem, q0, q1, q2, q3, q4, q5, q6] ) rfl ⟨⟨_, _, rfl, ?_, ?_⟩, ?_⟩
  all_goals first
    | (refine Lx.own_mono (base := w.heap.size + 1) ?_ (by omega)
       iterate 7 refine own_set ?_ (by simp) _
       first | exact HO3.out | exact HT.out)
    | (iterate 7 refine Below.setCell ?_ (by simp) _
       exact HB.out)
end Go.Proofs.YtadgnafafdfioaaGreatDoor.Rd
/-
  A LINE's WORDS, WHATEVER THEY ARE: statement and Parse. Conditions: each theorem's own.
-/
namespace Go.Proofs.YtadgnafafdfioaaGreatDoor.Rd
set_option maxRecDepth 100000
open Go.RowKit Nm
set_option linter.unusedVariables false
set_option linter.unusedSimpArgs false

theorem cell_two {w : World} {ao : Option Addr} {a x : ByteArray} {r : List ByteArray} (h : Row w ao (txts (a :: x :: r))) : ∃ b off, ao = some ⟨b, off, none⟩ ∧ w.cell? ⟨b, off, none⟩ = some (.string a) ∧ w.cell? ⟨b, off + 1, none⟩ = some (.string x) := by
  obtain ⟨b, off, rfl, h0⟩ := h 0 (.string a) rfl
  obtain ⟨b', off', e, h1⟩ := h 1 (.string x) rfl
  cases e
  exact ⟨b, off, rfl, by rw [Nat.add_zero] at h0; exact h0, h1⟩

theorem given_any (a x : ByteArray) (r : List ByteArray) (ao : Option Addr) (c : Nat) (w : World) (hR : Row w ao (txts (a :: x :: r))) (hl : r.length + 2 ≤ 1000000) (hcap : r.length + 2 ≤ c) (hcm : c ≤ maxLen) :
    Calls Tryz.prog 61 #[.slice ao (r.length + 2) c] w fun e w' => Fo w' w.heap.size (giv a x r) e ∧ Below w.heap.size w w' := by
  obtain ⟨b, off, rfl, hc0, hc1⟩ := cell_two hR
  have hD : ∀ A, Ag b off c 2 A → ∀ v, Below w.heap.size w v → Calls Tryz.prog 79 #[.slice (some A) r.length (c - 2)] v fun e w' => ∃ u, e = .returned (.tuple #[u, .bool (dmo r)]) ∧ Od w' v.heap.size u (dmv r) ∧ Below v.heap.size v w' :=
    fun A hA v hv => dims_any (some A) r (c - 2) v ((row_ag hR hcap hA).below hv)
  unfold giv
  cases hd : dms r with
  | none =>
    obtain ⟨e1, e2⟩ := dm_no hd
    rw [e1] at hD
    exact (giv_no1 b off r.length c a x w (by omega) hcap hcm hc0 hc1 _ hD).mono fun e w' h => h
  | some d =>
    obtain ⟨e1, e2⟩ := dm_yes hd
    rw [e1, e2] at hD
    cases hn : nmb x with
    | false => exact (giv_no2 b off r.length c a x w (by omega) hcap hcm hc0 hc1 hn _ hD).mono fun e w' h => h
    | true =>
      refine (giv_yes b off r.length c a x w (by omega) hcap hcm hc0 hc1 hn _ hD).mono ?_
      rintro e w' ⟨⟨u, rfl, hO⟩, hB⟩
      exact ⟨⟨_, rfl, _, _, _, rfl, Ob.nil _ _, hO, Ob.nil _ _, .inr rfl⟩, hB⟩
theorem loss_any (a x : ByteArray) (r : List ByteArray) (ao : Option Addr) (c : Nat) (w : World) (hR : Row w ao (txts (a :: x :: r))) (hcap : r.length + 2 ≤ c) (hcm : c ≤ maxLen) :
    Calls Tryz.prog 63 #[.slice ao (r.length + 2) c] w fun e w' => Fo w' w.heap.size (if nmb x = true ∧ r = [] then some ⟨em, a, [x], [], em, 0, []⟩ else none) e ∧ Below w.heap.size w w' := by
  obtain ⟨b, off, rfl, hc0, hc1⟩ := cell_two hR
  cases r with
  | cons y l =>
    rw [if_neg (by simp)]
    exact (loss_long (some ⟨b, off, none⟩) ((y :: l).length + 2) c w (by simp; omega)).mono fun e w' h => h
  | nil =>
    cases hn : nmb x with
    | false =>
      rw [if_neg (by simp)]
      exact (loss_name b off c a x w hcap hcm hc0 hc1 hn).mono fun e w' h => h
    | true =>
      rw [if_pos ⟨rfl, rfl⟩]
      refine (loss_yes b off c a x w hcap hcm hc0 hc1 hn).mono ?_
      rintro e w' ⟨⟨u, rfl, hO⟩, hB⟩
      exact ⟨⟨_, rfl, _, _, _, rfl, hO, Od.nil _ _, Ob.nil _ _, .inr rfl⟩, hB⟩

theorem cut_cases (r : List ByteArray) : (cutEq r = none ∧ ∀ j, j < r.length → isw (r.getD j em) lEq = false) ∨ ∃ k, k < r.length ∧ isw (r.getD k em) lEq = true ∧ (∀ j, j < k → isw (r.getD j em) lEq = false) ∧ cutEq r = some (r.take k, r.drop (k + 1)) := by
  induction r with
  | nil => exact Or.inl ⟨rfl, fun j hj => by simp at hj⟩
  | cons y l ih =>
    cases hy : isw y lEq with
    | true => exact Or.inr ⟨0, by simp, by simpa using hy, fun j hj => by omega, cut_some (by simp) (fun j hj => by omega) (by simpa using hy)⟩
    | false =>
      have hz : ∀ j, (∀ i, i < j → isw (l.getD i em) lEq = false) → ∀ i, i < j + 1 → isw ((y :: l).getD i em) lEq = false := by
        intro j h i hi
        cases i with
        | zero => simpa using hy
        | succ i => simpa using h i (by omega)
      rcases ih with ⟨_, h⟩ | ⟨k, hk, he, hf, _⟩
      · have := hz l.length h
        exact Or.inl ⟨cut_none this, this⟩
      · exact Or.inr ⟨k + 1, by simpa using hk, by simpa using he, hz k hf, cut_some (by simpa using hk) (hz k hf) (by simpa using he)⟩
theorem isw_v (x : ByteArray) (l : List UInt8) : ((⟨l.toArray⟩ : ByteArray).toList == x.toList) = isw x l := by
  rw [← isw_list, toList_data ⟨l.toArray⟩]
  exact Bool.beq_comm
theorem size_as (ao : Option Addr) (zs : List Int) (c m : Nat) (w : World) (hl : zs.length ≤ 1000) (hS : Sp.Sl w ao zs) (hm : Sp.szI zs = m) :
    Calls Tryz.prog 39 #[.slice ao zs.length c] w fun e w' => e = .returned (.int .i64 (m : Int)) ∧ w' = w := by
  subst hm
  exact Sp.size_any ao zs c w hl hS
theorem constant_any (a x : ByteArray) (r : List ByteArray) (ao : Option Addr) (c : Nat) (aF aZ : Addr) (w : World) (hE : Er w aF aZ) (ha : isw a lEq = false) (hx : isw x lEq = false) (hR : Row w ao (txts (a :: x :: r))) (hl : r.length + 2 ≤ 1000000) (hcap : r.length + 2 ≤ c) (hcm : c ≤ maxLen) (hs : ∀ y ∈ r, y.size ≤ 200000) :
    Calls Tryz.prog 62 #[.slice ao (r.length + 2) c] w fun e w' => Fo w' w.heap.size (con a x r) e ∧ Below w.heap.size w w' := by
  obtain ⟨b, off, rfl, hc0, hc1⟩ := cell_two hR
  have hlen : (a :: x :: r).length = r.length + 2 := rfl
  have hix := fun (v : World) (hv : Below w.heap.size w v) => index_any (some ⟨b, off, none⟩) (a :: x :: r) c ⟨lEq.toArray⟩ v hl (hR.below hv)
  rw [hlen] at hix
  have h01 : ∀ k, k < 2 → isw ((a :: x :: r).getD k em) lEq = false := by
    intro k hk
    match k, hk with
    | 0, _ => exact ha
    | 1, _ => exact hx
  have hge : ∀ k, isw ((a :: x :: r).getD (k + 2) em) lEq = isw (r.getD k em) lEq := fun k => rfl
  rcases cut_cases r with ⟨hcn, hno⟩ | ⟨k, hk, hke, hkf, hcs⟩
  · have e0 : con a x r = none := by unfold con; rw [hcn]
    rw [e0]
    refine (con_none b off (r.length + 2) c a x w hl (by omega) hcap hcm hc0 hc1 ?_).mono fun e w' h => h
    intro v hv
    refine (hix v hv).mono ?_
    rintro e w' ⟨i, rfl, hI, rfl⟩
    rcases hI with ⟨rfl, _⟩ | ⟨k, rfl, hk, he, _⟩
    · exact ⟨rfl, rfl⟩
    · exfalso
      rw [isw_v] at he
      by_cases h2 : k < 2
      · rw [h01 k h2] at he; cases he
      · obtain ⟨k, rfl⟩ : ∃ j, k = j + 2 := ⟨k - 2, by omega⟩
        rw [hge, hno k (by omega)] at he; cases he
  · have hI : ∀ v, Below w.heap.size w v → Calls Tryz.prog 80 #[.slice (some ⟨b, off, none⟩) (r.length + 2) c, .string ⟨#[61]⟩] v fun e w' => e = .returned (.int .i64 ((k + 2 : Nat) : Int)) ∧ w' = v := by
      intro v hv
      refine (hix v hv).mono ?_
      rintro e w' ⟨i, rfl, hI, rfl⟩
      refine ⟨?_, rfl⟩
      rcases hI with ⟨_, hn⟩ | ⟨q, rfl, hq, he, hf⟩
      · have := hn (k + 2) (by omega)
        rw [isw_v, hge, hke] at this; cases this
      · rw [isw_v] at he
        by_cases h2 : q < 2
        · rw [h01 q h2] at he; cases he
        · obtain ⟨q, rfl⟩ : ∃ j, q = j + 2 := ⟨q - 2, by omega⟩
          rw [hge] at he
          rcases Nat.lt_trichotomy q k with h | h | h
          · rw [hkf q h] at he; cases he
          · rw [h]
          · have := hf (k + 2) (by omega)
            rw [isw_v, hge, hke] at this; cases this
    have e1 : con a x r = if nmb x then (match dms (r.take k) with
        | some d => if (r.drop (k + 1)).length = Sp.szI d ∧ (r.drop (k + 1)).all ra = true then some ⟨x, a, [], d, em, 0, r.drop (k + 1)⟩ else none
        | none => none) else none := by
      unfold con; rw [hcs]
      simp only []
      cases nmb x with
      | false => rfl
      | true => cases dms (r.take k) <;> rfl
    have hlt : (r.take k).length = k := by rw [List.length_take]; omega
    have hld : (r.drop (k + 1)).length = r.length + 2 - (k + 2 + 1) := by rw [List.length_drop]; omega
    have hlk : r.length + 2 - (k + 2 + 1) = r.length - (k + 1) := by omega
    rw [e1]
    cases hn : nmb x with
    | false =>
      exact (con_name b off (r.length + 2) c a x w hl (by omega) hcap hcm hc0 hc1 (k + 2) (by omega) (by omega) hI hn).mono fun e w' h => h
    | true =>
      have hD : ∀ A, Ag b off c 2 A → ∀ v, Below w.heap.size w v → Calls Tryz.prog 79 #[.slice (some A) (k + 2 - 2) (c - 2)] v fun e w' => ∃ u, e = .returned (.tuple #[u, .bool (dmo (r.take k))]) ∧ Od w' v.heap.size u (dmv (r.take k)) ∧ Below v.heap.size v w' := by
        intro A hA v hv
        have := dims_any (some A) (r.take k) (c - 2) v (by rw [← txts_take]; exact Row.take' ((row_ag hR hcap hA).below hv) k)
        rw [hlt] at this
        rw [show k + 2 - 2 = k by omega]
        exact this
      cases hd : dms (r.take k) with
      | none =>
        obtain ⟨d1, d2⟩ := dm_no hd
        rw [d1] at hD
        exact (con_dims b off (r.length + 2) c a x w hl (by omega) hcap hcm hc0 hc1 (k + 2) (by omega) (by omega) hI hn _ hD).mono fun e w' h => h
      | some dv =>
        obtain ⟨d1, d2⟩ := dm_yes hd
        rw [d1, d2] at hD
        have hrg := (dms_some hd).2
        obtain ⟨m, hm⟩ : ∃ m, Sp.szI dv = m := ⟨_, rfl⟩
        have hm64 : m ≤ 64 := by rw [← hm]; exact Sp.szI_le dv
        have hS : ∀ a2 c2 v, Sp.Sl v a2 dv → Calls Tryz.prog 39 #[.slice a2 dv.length c2] v fun e w' => e = .returned (.int .i64 (m : Int)) ∧ w' = v := fun a2 c2 v h => size_as a2 dv c2 m v (by have := hrg.1; omega) h hm
        have hrow : ∀ A, Ag b off c (k + 2 + 1) A → ∀ v, Below w.heap.size w v → Row v (some A) (txts (r.drop (k + 1))) := fun A hA v hv => (row_ag hR hcap hA).below hv
        have hA : ∀ A, Ag b off c (k + 2 + 1) A → ∀ v, Below w.heap.size w v → Calls Tryz.prog 77 #[.slice (some A) (r.length + 2 - (k + 2 + 1)) (c - (k + 2 + 1)), .func (.func 50) #[] #[]] v fun e w' => e = .returned (.bool ((r.drop (k + 1)).all ra)) ∧ Below v.heap.size v w' := by
          intro A hA v hv
          have := allRat_any (some A) (r.drop (k + 1)) (c - (k + 2 + 1)) aF aZ v (hE.below hv) (by omega) (hrow A hA v hv) (fun i hi => hs _ (by
            have : (r.drop (k + 1)).getD i em ∈ r.drop (k + 1) := by
              rw [List.getD_eq_getElem?_getD, List.getElem?_eq_getElem hi]; exact List.getElem_mem hi
            exact List.mem_of_mem_drop this))
          rw [hld] at this
          exact this
        have hC : ∀ A, Ag b off c (k + 2 + 1) A → ∀ v, Below w.heap.size w v → Calls Tryz.prog 66 #[.slice (some A) (r.length + 2 - (k + 2 + 1)) (c - (k + 2 + 1))] v fun e w' => ∃ u, e = .returned u ∧ w'.ownsRow v.heap.size 9 1 u (r.drop (k + 1)).length (txts (r.drop (k + 1))) ∧ Below v.heap.size v w' := by
          intro A hA v hv
          have := clone_any (some A) (r.drop (k + 1)) (c - (k + 2 + 1)) v (by omega) (hrow A hA v hv)
          rw [← hld]
          exact this
        show Calls _ _ _ _ fun e w' => Fo w' w.heap.size (if (r.drop (k + 1)).length = Sp.szI dv ∧ (r.drop (k + 1)).all ra = true then _ else none) e ∧ _
        rw [hm, hld]
        by_cases hq : r.length + 2 - (k + 2 + 1) = m
        · have hq' : (((r.length + 2 - (k + 2 + 1) : Nat) : Int) != (m : Int)) = false := by simp [hq]
          cases hall : (r.drop (k + 1)).all ra with
          | false =>
            rw [if_neg (by simp)]
            rw [hall] at hA
            exact (con_rat b off (r.length + 2) c a x w hl (by omega) hcap hcm hc0 hc1 (k + 2) (by omega) (by omega) hI hn dv hD m hm64 hS hq' hA).mono fun e w' h => h
          | true =>
            rw [if_pos ⟨hq, rfl⟩]
            rw [hall] at hA
            refine (con_yes b off (r.length + 2) c a x w hl (by omega) hcap hcm hc0 hc1 (k + 2) (by omega) (by omega) hI hn dv hD m hm64 hS hq' hA (r.drop (k + 1)) hld hC).mono ?_
            rintro e w' ⟨⟨u, t, rfl, hO, hT⟩, hB⟩
            exact ⟨⟨_, rfl, _, _, _, rfl, Ob.nil _ _, hO, hT, .inl rfl⟩, hB⟩
        · have hq' : (((r.length + 2 - (k + 2 + 1) : Nat) : Int) != (m : Int)) = true := by
            apply bne_iff_ne.2
            omega
          rw [if_neg (fun h => hq h.1)]
          exact (con_len b off (r.length + 2) c a x w hl (by omega) hcap hcm hc0 hc1 (k + 2) (by omega) (by omega) hI hn dv hD m hm64 hS hq').mono fun e w' h => h
end Go.Proofs.YtadgnafafdfioaaGreatDoor.Rd
/-
  WHICH STATEMENT A LINE's WORDS ARE. Conditions: each theorem's own.
-/
namespace Go.Proofs.YtadgnafafdfioaaGreatDoor.Rd
set_option maxRecDepth 100000
open Go.RowKit Nm
set_option linter.unusedVariables false
set_option linter.unusedSimpArgs false

set_option maxHeartbeats 2000000 in
theorem st_eq_no (b off n c : Nat) (a x : ByteArray) (w : World) (hl : n ≤ 1000000) (hcap : n + 2 ≤ c) (hcm : c ≤ maxLen) (hc0 : w.cell? ⟨b, off, none⟩ = some (.string a)) (hc1 : w.cell? ⟨b, off + 1, none⟩ = some (.string x)) (hx : x = ⟨#[61]⟩) (hF : ∀ A, Ag b off c 2 A → ∀ v, Below w.heap.size w v → Calls Tryz.prog 60 #[.string a, .slice (some A) n (c - 2)] v fun e w' => e = .returned (.tuple #[zv, .bool false]) ∧ Below v.heap.size v w') :
    Calls Tryz.prog 46 #[.slice (some ⟨b, off, none⟩) (n + 2) c] w fun e w' => (e = .returned (.tuple #[zv, .bool false])) ∧ Below w.heap.size w w' := by
  subst hx
  obtain ⟨o1, ho1⟩ := ag_some b off c 2
  have HF : Hid _ := hF ⟨b, o1, none⟩ ho1
  clear hF
  have hl0 : b < w.heap.size := row_lt hc0
  go_enter Tryz.func46, Tryz.ntmps46
  go_wp2_with fail
  go_region_with (go_at_call 60; refine (HF.out _ (((Below.refl _ _).alloc (Nat.le_refl _) _).drew)).mono ?_; rintro e w1 ⟨rfl, h1⟩; obtain ⟨q0, q1, q2, q3, q4, q5, q6, f1, hB⟩ := own7 (r := 41) ((Below.drew (Below.refl (w.alloc (.cells z7 41)).heap.size (w.alloc (.cells z7 41)))).trans h1); have HB : Hid _ := hB; clear h1 hB)
  all_goals go_wp2
  all_goals refine bodyPost_ret (v := .tuple #[zv, .bool false]) (by simp [results, Tryz.results46, go_sem, q0, q1, q2, q3, q4, q5, q6]) rfl ⟨rfl, ?_⟩
  all_goals
    iterate 7 refine Below.setCell ?_ (by simp) _
    exact HB.out
set_option maxHeartbeats 2000000 in
theorem st_eq_yes (b off n c : Nat) (a x : ByteArray) (w : World) (hl : n ≤ 1000000) (hcap : n + 2 ≤ c) (hcm : c ≤ maxLen) (hc0 : w.cell? ⟨b, off, none⟩ = some (.string a)) (hc1 : w.cell? ⟨b, off + 1, none⟩ = some (.string x)) (s : Sm) (hx : x = ⟨#[61]⟩) (hF : ∀ A, Ag b off c 2 A → ∀ v, Below w.heap.size w v → Calls Tryz.prog 60 #[.string a, .slice (some A) n (c - 2)] v fun e w' => (∃ u, e = .returned (.tuple #[u, .bool true]) ∧ So w' v.heap.size u s) ∧ Below v.heap.size v w') :
    Calls Tryz.prog 46 #[.slice (some ⟨b, off, none⟩) (n + 2) c] w fun e w' => (∃ u, e = .returned (.tuple #[u, .bool true]) ∧ So w' w.heap.size u s) ∧ Below w.heap.size w w' := by
  subst hx
  obtain ⟨o1, ho1⟩ := ag_some b off c 2
  have HF : Hid _ := hF ⟨b, o1, none⟩ ho1
  clear hF
  have hl0 : b < w.heap.size := row_lt hc0
  go_enter Tryz.func46, Tryz.ntmps46
  go_wp2_with fail
  go_region_with (go_at_call 60; refine (HF.out _ (((Below.refl _ _).alloc (Nat.le_refl _) _).drew)).mono ?_; rintro e w1 ⟨⟨u, rfl, hU⟩, h1⟩; obtain ⟨q0, q1, q2, q3, q4, q5, q6, f1, hB⟩ := own7 (r := 41) ((Below.drew (Below.refl (w.alloc (.cells z7 41)).heap.size (w.alloc (.cells z7 41)))).trans h1); have HB : Hid _ := hB; obtain ⟨a1, m1, c1, a2, m2, c2, a3, m3, c3, rfl⟩ := hU.form; have HU : Hid _ := So.mono hU (show w.heap.size + 1 ≤ _ by simp); clear hU; clear h1 hB)
  all_goals go_wp2
  all_goals refine bodyPost_ret (v := .tuple #[sv s.name s.op (.slice a1 m1 c1) (.slice a2 m2 c2) s.k s.n (.slice a3 m3 c3), .bool true]) (by simp [results, Tryz.results46, go_sem, q0, q1, q2, q3, q4, q5, q6]) rfl ⟨⟨_, rfl, ?_⟩, ?_⟩
  all_goals first
    | (refine So.mono (B := w.heap.size + 1) ?_ (by omega)
       iterate 7 refine So.set ?_ (by simp) _
       exact HU.out)
    | (iterate 7 refine Below.setCell ?_ (by simp) _
       exact HB.out)
set_option maxHeartbeats 1000000 in
theorem st_param_no (b off n c : Nat) (a x : ByteArray) (w : World) (hl : n ≤ 1000000) (hcap : n + 2 ≤ c) (hcm : c ≤ maxLen) (hc0 : w.cell? ⟨b, off, none⟩ = some (.string a)) (hc1 : w.cell? ⟨b, off + 1, none⟩ = some (.string x)) (hx : isw x lEq = false) (ha : a = ⟨#[112, 97, 114, 97, 109]⟩) (hF : ∀ v, Below w.heap.size w v → Calls Tryz.prog 61 #[.slice (some ⟨b, off, none⟩) (n + 2) c] v fun e w' => e = .returned (.tuple #[zv, .bool false]) ∧ Below v.heap.size v w') :
    Calls Tryz.prog 46 #[.slice (some ⟨b, off, none⟩) (n + 2) c] w fun e w' => (e = .returned (.tuple #[zv, .bool false])) ∧ Below w.heap.size w w' := by
  subst ha
  have hx' := isw_l hx
  have HF : Hid _ := hF
  clear hF hx
  have hl0 : b < w.heap.size := row_lt hc0
  go_enter Tryz.func46, Tryz.ntmps46
  go_wp2_with fail
  refine (HF.out _ ((Below.refl _ _).alloc (Nat.le_refl _) _)).mono ?_
  rintro e w1 ⟨rfl, h1⟩
  obtain ⟨q0, q1, q2, q3, q4, q5, q6, f1, hB⟩ := own7 (r := 41) h1
  have HB : Hid _ := hB
  clear h1 hB
  go_wp2
  refine bodyPost_ret (v := .tuple #[zv, .bool false]) (by simp [results, Tryz.results46, go_sem, q0, q1, q2, q3, q4, q5, q6]) rfl ⟨rfl, ?_⟩
  all_goals
    iterate 7 refine Below.setCell ?_ (by simp) _
    exact HB.out
set_option maxHeartbeats 1000000 in
theorem st_param_yes (b off n c : Nat) (a x : ByteArray) (w : World) (hl : n ≤ 1000000) (hcap : n + 2 ≤ c) (hcm : c ≤ maxLen) (hc0 : w.cell? ⟨b, off, none⟩ = some (.string a)) (hc1 : w.cell? ⟨b, off + 1, none⟩ = some (.string x)) (s : Sm) (hx : isw x lEq = false) (ha : a = ⟨#[112, 97, 114, 97, 109]⟩) (hF : ∀ v, Below w.heap.size w v → Calls Tryz.prog 61 #[.slice (some ⟨b, off, none⟩) (n + 2) c] v fun e w' => (∃ u, e = .returned (.tuple #[u, .bool true]) ∧ So w' v.heap.size u s) ∧ Below v.heap.size v w') :
    Calls Tryz.prog 46 #[.slice (some ⟨b, off, none⟩) (n + 2) c] w fun e w' => (∃ u, e = .returned (.tuple #[u, .bool true]) ∧ So w' w.heap.size u s) ∧ Below w.heap.size w w' := by
  subst ha
  have hx' := isw_l hx
  have HF : Hid _ := hF
  clear hF hx
  have hl0 : b < w.heap.size := row_lt hc0
  go_enter Tryz.func46, Tryz.ntmps46
  go_wp2_with fail
  refine (HF.out _ ((Below.refl _ _).alloc (Nat.le_refl _) _)).mono ?_
  rintro e w1 ⟨⟨u, rfl, hU⟩, h1⟩
  obtain ⟨q0, q1, q2, q3, q4, q5, q6, f1, hB⟩ := own7 (r := 41) h1
  have HB : Hid _ := hB
  obtain ⟨a1, m1, c1, a2, m2, c2, a3, m3, c3, rfl⟩ := hU.form
  have HU : Hid _ := So.mono hU (show w.heap.size + 1 ≤ _ by simp)
  clear hU
  clear h1 hB
  go_wp2
  refine bodyPost_ret (v := .tuple #[sv s.name s.op (.slice a1 m1 c1) (.slice a2 m2 c2) s.k s.n (.slice a3 m3 c3), .bool true]) (by simp [results, Tryz.results46, go_sem, q0, q1, q2, q3, q4, q5, q6]) rfl ⟨⟨_, rfl, ?_⟩, ?_⟩
  all_goals first
    | (refine So.mono (B := w.heap.size + 1) ?_ (by omega)
       iterate 7 refine So.set ?_ (by simp) _
       exact HU.out)
    | (iterate 7 refine Below.setCell ?_ (by simp) _
       exact HB.out)
set_option maxHeartbeats 1000000 in
theorem st_input_no (b off n c : Nat) (a x : ByteArray) (w : World) (hl : n ≤ 1000000) (hcap : n + 2 ≤ c) (hcm : c ≤ maxLen) (hc0 : w.cell? ⟨b, off, none⟩ = some (.string a)) (hc1 : w.cell? ⟨b, off + 1, none⟩ = some (.string x)) (hx : isw x lEq = false) (ha : a = ⟨#[105, 110, 112, 117, 116]⟩) (hF : ∀ v, Below w.heap.size w v → Calls Tryz.prog 61 #[.slice (some ⟨b, off, none⟩) (n + 2) c] v fun e w' => e = .returned (.tuple #[zv, .bool false]) ∧ Below v.heap.size v w') :
    Calls Tryz.prog 46 #[.slice (some ⟨b, off, none⟩) (n + 2) c] w fun e w' => (e = .returned (.tuple #[zv, .bool false])) ∧ Below w.heap.size w w' := by
  subst ha
  have hx' := isw_l hx
  have HF : Hid _ := hF
  clear hF hx
  have hl0 : b < w.heap.size := row_lt hc0
  go_enter Tryz.func46, Tryz.ntmps46
  go_wp2_with fail
  refine (HF.out _ ((Below.refl _ _).alloc (Nat.le_refl _) _)).mono ?_
  rintro e w1 ⟨rfl, h1⟩
  obtain ⟨q0, q1, q2, q3, q4, q5, q6, f1, hB⟩ := own7 (r := 41) h1
  have HB : Hid _ := hB
  clear h1 hB
  go_wp2
  refine bodyPost_ret (v := .tuple #[zv, .bool false]) (by simp [results, Tryz.results46, go_sem, q0, q1, q2, q3, q4, q5, q6]) rfl ⟨rfl, ?_⟩
  all_goals
    iterate 7 refine Below.setCell ?_ (by simp) _
    exact HB.out
set_option maxHeartbeats 1000000 in
theorem st_input_yes (b off n c : Nat) (a x : ByteArray) (w : World) (hl : n ≤ 1000000) (hcap : n + 2 ≤ c) (hcm : c ≤ maxLen) (hc0 : w.cell? ⟨b, off, none⟩ = some (.string a)) (hc1 : w.cell? ⟨b, off + 1, none⟩ = some (.string x)) (s : Sm) (hx : isw x lEq = false) (ha : a = ⟨#[105, 110, 112, 117, 116]⟩) (hF : ∀ v, Below w.heap.size w v → Calls Tryz.prog 61 #[.slice (some ⟨b, off, none⟩) (n + 2) c] v fun e w' => (∃ u, e = .returned (.tuple #[u, .bool true]) ∧ So w' v.heap.size u s) ∧ Below v.heap.size v w') :
    Calls Tryz.prog 46 #[.slice (some ⟨b, off, none⟩) (n + 2) c] w fun e w' => (∃ u, e = .returned (.tuple #[u, .bool true]) ∧ So w' w.heap.size u s) ∧ Below w.heap.size w w' := by
  subst ha
  have hx' := isw_l hx
  have HF : Hid _ := hF
  clear hF hx
  have hl0 : b < w.heap.size := row_lt hc0
  go_enter Tryz.func46, Tryz.ntmps46
  go_wp2_with fail
  refine (HF.out _ ((Below.refl _ _).alloc (Nat.le_refl _) _)).mono ?_
  rintro e w1 ⟨⟨u, rfl, hU⟩, h1⟩
  obtain ⟨q0, q1, q2, q3, q4, q5, q6, f1, hB⟩ := own7 (r := 41) h1
  have HB : Hid _ := hB
  obtain ⟨a1, m1, c1, a2, m2, c2, a3, m3, c3, rfl⟩ := hU.form
  have HU : Hid _ := So.mono hU (show w.heap.size + 1 ≤ _ by simp)
  clear hU
  clear h1 hB
  go_wp2
  refine bodyPost_ret (v := .tuple #[sv s.name s.op (.slice a1 m1 c1) (.slice a2 m2 c2) s.k s.n (.slice a3 m3 c3), .bool true]) (by simp [results, Tryz.results46, go_sem, q0, q1, q2, q3, q4, q5, q6]) rfl ⟨⟨_, rfl, ?_⟩, ?_⟩
  all_goals first
    | (refine So.mono (B := w.heap.size + 1) ?_ (by omega)
       iterate 7 refine So.set ?_ (by simp) _
       exact HU.out)
    | (iterate 7 refine Below.setCell ?_ (by simp) _
       exact HB.out)
set_option maxHeartbeats 1000000 in
theorem st_const_no (b off n c : Nat) (a x : ByteArray) (w : World) (hl : n ≤ 1000000) (hcap : n + 2 ≤ c) (hcm : c ≤ maxLen) (hc0 : w.cell? ⟨b, off, none⟩ = some (.string a)) (hc1 : w.cell? ⟨b, off + 1, none⟩ = some (.string x)) (hx : isw x lEq = false) (ha : a = ⟨#[99, 111, 110, 115, 116]⟩) (hF : ∀ v, Below w.heap.size w v → Calls Tryz.prog 62 #[.slice (some ⟨b, off, none⟩) (n + 2) c] v fun e w' => e = .returned (.tuple #[zv, .bool false]) ∧ Below v.heap.size v w') :
    Calls Tryz.prog 46 #[.slice (some ⟨b, off, none⟩) (n + 2) c] w fun e w' => (e = .returned (.tuple #[zv, .bool false])) ∧ Below w.heap.size w w' := by
  subst ha
  have hx' := isw_l hx
  have HF : Hid _ := hF
  clear hF hx
  have hl0 : b < w.heap.size := row_lt hc0
  go_enter Tryz.func46, Tryz.ntmps46
  go_wp2_with fail
  refine (HF.out _ ((Below.refl _ _).alloc (Nat.le_refl _) _)).mono ?_
  rintro e w1 ⟨rfl, h1⟩
  obtain ⟨q0, q1, q2, q3, q4, q5, q6, f1, hB⟩ := own7 (r := 41) h1
  have HB : Hid _ := hB
  clear h1 hB
  go_wp2
  refine bodyPost_ret (v := .tuple #[zv, .bool false]) (by simp [results, Tryz.results46, go_sem, q0, q1, q2, q3, q4, q5, q6]) rfl ⟨rfl, ?_⟩
  all_goals
    iterate 7 refine Below.setCell ?_ (by simp) _
    exact HB.out
set_option maxHeartbeats 1000000 in
theorem st_const_yes (b off n c : Nat) (a x : ByteArray) (w : World) (hl : n ≤ 1000000) (hcap : n + 2 ≤ c) (hcm : c ≤ maxLen) (hc0 : w.cell? ⟨b, off, none⟩ = some (.string a)) (hc1 : w.cell? ⟨b, off + 1, none⟩ = some (.string x)) (s : Sm) (hx : isw x lEq = false) (ha : a = ⟨#[99, 111, 110, 115, 116]⟩) (hF : ∀ v, Below w.heap.size w v → Calls Tryz.prog 62 #[.slice (some ⟨b, off, none⟩) (n + 2) c] v fun e w' => (∃ u, e = .returned (.tuple #[u, .bool true]) ∧ So w' v.heap.size u s) ∧ Below v.heap.size v w') :
    Calls Tryz.prog 46 #[.slice (some ⟨b, off, none⟩) (n + 2) c] w fun e w' => (∃ u, e = .returned (.tuple #[u, .bool true]) ∧ So w' w.heap.size u s) ∧ Below w.heap.size w w' := by
  subst ha
  have hx' := isw_l hx
  have HF : Hid _ := hF
  clear hF hx
  have hl0 : b < w.heap.size := row_lt hc0
  go_enter Tryz.func46, Tryz.ntmps46
  go_wp2_with fail
  refine (HF.out _ ((Below.refl _ _).alloc (Nat.le_refl _) _)).mono ?_
  rintro e w1 ⟨⟨u, rfl, hU⟩, h1⟩
  obtain ⟨q0, q1, q2, q3, q4, q5, q6, f1, hB⟩ := own7 (r := 41) h1
  have HB : Hid _ := hB
  obtain ⟨a1, m1, c1, a2, m2, c2, a3, m3, c3, rfl⟩ := hU.form
  have HU : Hid _ := So.mono hU (show w.heap.size + 1 ≤ _ by simp)
  clear hU
  clear h1 hB
  go_wp2
  refine bodyPost_ret (v := .tuple #[sv s.name s.op (.slice a1 m1 c1) (.slice a2 m2 c2) s.k s.n (.slice a3 m3 c3), .bool true]) (by simp [results, Tryz.results46, go_sem, q0, q1, q2, q3, q4, q5, q6]) rfl ⟨⟨_, rfl, ?_⟩, ?_⟩
  all_goals first
    | (refine So.mono (B := w.heap.size + 1) ?_ (by omega)
       iterate 7 refine So.set ?_ (by simp) _
       exact HU.out)
    | (iterate 7 refine Below.setCell ?_ (by simp) _
       exact HB.out)
set_option maxHeartbeats 1000000 in
theorem st_loss_no (b off n c : Nat) (a x : ByteArray) (w : World) (hl : n ≤ 1000000) (hcap : n + 2 ≤ c) (hcm : c ≤ maxLen) (hc0 : w.cell? ⟨b, off, none⟩ = some (.string a)) (hc1 : w.cell? ⟨b, off + 1, none⟩ = some (.string x)) (hx : isw x lEq = false) (ha : a = ⟨#[108, 111, 115, 115]⟩) (hF : ∀ v, Below w.heap.size w v → Calls Tryz.prog 63 #[.slice (some ⟨b, off, none⟩) (n + 2) c] v fun e w' => e = .returned (.tuple #[zv, .bool false]) ∧ Below v.heap.size v w') :
    Calls Tryz.prog 46 #[.slice (some ⟨b, off, none⟩) (n + 2) c] w fun e w' => (e = .returned (.tuple #[zv, .bool false])) ∧ Below w.heap.size w w' := by
  subst ha
  have hx' := isw_l hx
  have HF : Hid _ := hF
  clear hF hx
  have hl0 : b < w.heap.size := row_lt hc0
  go_enter Tryz.func46, Tryz.ntmps46
  go_wp2_with fail
  refine (HF.out _ ((Below.refl _ _).alloc (Nat.le_refl _) _)).mono ?_
  rintro e w1 ⟨rfl, h1⟩
  obtain ⟨q0, q1, q2, q3, q4, q5, q6, f1, hB⟩ := own7 (r := 41) h1
  have HB : Hid _ := hB
  clear h1 hB
  go_wp2
  refine bodyPost_ret (v := .tuple #[zv, .bool false]) (by simp [results, Tryz.results46, go_sem, q0, q1, q2, q3, q4, q5, q6]) rfl ⟨rfl, ?_⟩
  all_goals
    iterate 7 refine Below.setCell ?_ (by simp) _
    exact HB.out
set_option maxHeartbeats 1000000 in
theorem st_loss_yes (b off n c : Nat) (a x : ByteArray) (w : World) (hl : n ≤ 1000000) (hcap : n + 2 ≤ c) (hcm : c ≤ maxLen) (hc0 : w.cell? ⟨b, off, none⟩ = some (.string a)) (hc1 : w.cell? ⟨b, off + 1, none⟩ = some (.string x)) (s : Sm) (hx : isw x lEq = false) (ha : a = ⟨#[108, 111, 115, 115]⟩) (hF : ∀ v, Below w.heap.size w v → Calls Tryz.prog 63 #[.slice (some ⟨b, off, none⟩) (n + 2) c] v fun e w' => (∃ u, e = .returned (.tuple #[u, .bool true]) ∧ So w' v.heap.size u s) ∧ Below v.heap.size v w') :
    Calls Tryz.prog 46 #[.slice (some ⟨b, off, none⟩) (n + 2) c] w fun e w' => (∃ u, e = .returned (.tuple #[u, .bool true]) ∧ So w' w.heap.size u s) ∧ Below w.heap.size w w' := by
  subst ha
  have hx' := isw_l hx
  have HF : Hid _ := hF
  clear hF hx
  have hl0 : b < w.heap.size := row_lt hc0
  go_enter Tryz.func46, Tryz.ntmps46
  go_wp2_with fail
  refine (HF.out _ ((Below.refl _ _).alloc (Nat.le_refl _) _)).mono ?_
  rintro e w1 ⟨⟨u, rfl, hU⟩, h1⟩
  obtain ⟨q0, q1, q2, q3, q4, q5, q6, f1, hB⟩ := own7 (r := 41) h1
  have HB : Hid _ := hB
  obtain ⟨a1, m1, c1, a2, m2, c2, a3, m3, c3, rfl⟩ := hU.form
  have HU : Hid _ := So.mono hU (show w.heap.size + 1 ≤ _ by simp)
  clear hU
  clear h1 hB
  go_wp2
  refine bodyPost_ret (v := .tuple #[sv s.name s.op (.slice a1 m1 c1) (.slice a2 m2 c2) s.k s.n (.slice a3 m3 c3), .bool true]) (by simp [results, Tryz.results46, go_sem, q0, q1, q2, q3, q4, q5, q6]) rfl ⟨⟨_, rfl, ?_⟩, ?_⟩
  all_goals first
    | (refine So.mono (B := w.heap.size + 1) ?_ (by omega)
       iterate 7 refine So.set ?_ (by simp) _
       exact HU.out)
    | (iterate 7 refine Below.setCell ?_ (by simp) _
       exact HB.out)
set_option maxHeartbeats 1000000 in
theorem st_other (b off n c : Nat) (a x : ByteArray) (w : World) (hl : n ≤ 1000000) (hcap : n + 2 ≤ c) (hcm : c ≤ maxLen) (hc0 : w.cell? ⟨b, off, none⟩ = some (.string a)) (hc1 : w.cell? ⟨b, off + 1, none⟩ = some (.string x)) (hx : isw x lEq = false) (h1 : isw a lParam = false) (h2 : isw a lInput = false) (h3 : isw a lConst = false) (h4 : isw a lLoss = false) :
    Calls Tryz.prog 46 #[.slice (some ⟨b, off, none⟩) (n + 2) c] w fun e w' => e = .returned (.tuple #[zv, .bool false]) ∧ Below w.heap.size w w' := by
  have hx' := isw_l hx
  have g1 := isw_l h1
  have g2 := isw_l h2
  have g3 := isw_l h3
  have g4 := isw_l h4
  clear hx h1 h2 h3 h4
  have hl0 : b < w.heap.size := row_lt hc0
  go_enter Tryz.func46, Tryz.ntmps46
  go_wp2
  refine bodyPost_ret (v := .tuple #[zv, .bool false]) ?_ rfl ⟨rfl, ?_⟩
  · simp [results, Tryz.results46, go_sem]
  · exact (Below.refl _ _).alloc (Nat.le_refl _) _
theorem st_short (ao : Option Addr) (n c : Nat) (w : World) (hn : n < 2) :
    Calls Tryz.prog 46 #[.slice ao n c] w fun e w' => e = .returned (.tuple #[zv, .bool false]) ∧ Below w.heap.size w w' := by
  go_enter Tryz.func46, Tryz.ntmps46
  go_wp2
  refine bodyPost_ret (v := .tuple #[zv, .bool false]) ?_ rfl ⟨rfl, ?_⟩
  · simp [results, Tryz.results46, go_sem]
  · exact (Below.refl _ _).alloc (Nat.le_refl _) _
end Go.Proofs.YtadgnafafdfioaaGreatDoor.Rd
/-
  A LINE's WORDS, WHATEVER THEY ARE: Parse. Conditions: each theorem's own.
-/
namespace Go.Proofs.YtadgnafafdfioaaGreatDoor.Rd
set_option maxRecDepth 100000
open Go.RowKit Nm
set_option linter.unusedVariables false
set_option linter.unusedSimpArgs false

theorem statement_any (ws : List ByteArray) (ao : Option Addr) (c : Nat) (aF aZ : Addr) (w : World) (hE : Er w aF aZ) (hR : Row w ao (txts ws)) (hl : ws.length ≤ 1000000) (hcap : ws.length ≤ c) (hcm : c ≤ maxLen) (hs : ∀ y ∈ ws, y.size ≤ 200000) :
    Calls Tryz.prog 46 #[.slice ao ws.length c] w fun e w' => Fo w' w.heap.size (par ws) e ∧ Below w.heap.size w w' := by
  match ws, hR, hl, hcap, hs with
  | [], _, _, _, _ => exact (st_short ao 0 c w (by omega)).mono fun e w' h => h
  | [a], _, _, _, _ => exact (st_short ao 1 c w (by omega)).mono fun e w' h => h
  | a :: x :: r, hR, hl, hcap, hs =>
    have hlen : (a :: x :: r).length = r.length + 2 := rfl
    have hR' := hR
    obtain ⟨b, off, rfl, hc0, hc1⟩ := cell_two hR
    rw [hlen] at hl hcap ⊢
    have hl' : r.length ≤ 1000000 := by omega
    have hsr : ∀ y ∈ r, y.size ≤ 200000 := fun y hy => hs y (by simp [hy])
    rw [par_two]
    cases hx : isw x lEq with
    | true =>
      rw [if_pos rfl]
      have hxe := isw_eq hx
      have hO : ∀ A, Ag b off c 2 A → ∀ v, Below w.heap.size w v → Calls Tryz.prog 60 #[.string a, .slice (some A) r.length (c - 2)] v fun e w' => Fo w' v.heap.size (opn a r) e ∧ Below v.heap.size v w' :=
        fun A hA v hv => operation_any a r (some A) (c - 2) aF aZ v (hE.below hv) ((row_ag hR' hcap hA).below hv) hl' (by omega) (by omega) hsr
      cases ho : opn a r with
      | none =>
        rw [ho] at hO
        exact (st_eq_no b off r.length c a x w hl' hcap hcm hc0 hc1 hxe hO).mono fun e w' h => h
      | some s =>
        rw [ho] at hO
        exact (st_eq_yes b off r.length c a x w hl' hcap hcm hc0 hc1 s hxe hO).mono fun e w' h => h
    | false =>
      rw [if_neg (by simp)]
      have hG : ∀ v, Below w.heap.size w v → Calls Tryz.prog 61 #[.slice (some ⟨b, off, none⟩) (r.length + 2) c] v fun e w' => Fo w' v.heap.size (giv a x r) e ∧ Below v.heap.size v w' :=
        fun v hv => given_any a x r _ c v (hR'.below hv) hl hcap hcm
      cases h1 : isw a lParam with
      | true =>
        rw [if_pos (by simp)]
        cases ho : giv a x r with
        | none =>
          have hO := hG
          rw [ho] at hO
          exact (st_param_no b off r.length c a x w hl' hcap hcm hc0 hc1 hx (isw_eq h1) hO).mono fun e w' h => h
        | some s =>
          have hO := hG
          rw [ho] at hO
          exact (st_param_yes b off r.length c a x w hl' hcap hcm hc0 hc1 s hx (isw_eq h1) hO).mono fun e w' h => h
      | false =>
        cases h2 : isw a lInput with
        | true =>
          rw [if_pos (by simp)]
          cases ho : giv a x r with
          | none =>
            have hO := hG
            rw [ho] at hO
            exact (st_input_no b off r.length c a x w hl' hcap hcm hc0 hc1 hx (isw_eq h2) hO).mono fun e w' h => h
          | some s =>
            have hO := hG
            rw [ho] at hO
            exact (st_input_yes b off r.length c a x w hl' hcap hcm hc0 hc1 s hx (isw_eq h2) hO).mono fun e w' h => h
        | false =>
          rw [if_neg (by simp)]
          cases h3 : isw a lConst with
          | true =>
            rw [if_pos rfl]
            have hae : isw a lEq = false := by rw [isw_eq h3]; decide
            have hK : ∀ v, Below w.heap.size w v → Calls Tryz.prog 62 #[.slice (some ⟨b, off, none⟩) (r.length + 2) c] v fun e w' => Fo w' v.heap.size (con a x r) e ∧ Below v.heap.size v w' :=
              fun v hv => constant_any a x r _ c aF aZ v (hE.below hv) hae hx (hR'.below hv) hl hcap hcm hsr
            cases ho : con a x r with
            | none =>
              have hO := hK
              rw [ho] at hO
              exact (st_const_no b off r.length c a x w hl' hcap hcm hc0 hc1 hx (isw_eq h3) hO).mono fun e w' h => h
            | some s =>
              have hO := hK
              rw [ho] at hO
              exact (st_const_yes b off r.length c a x w hl' hcap hcm hc0 hc1 s hx (isw_eq h3) hO).mono fun e w' h => h
          | false =>
            rw [if_neg (by simp)]
            cases h4 : isw a lLoss with
            | true =>
              rw [if_pos rfl]
              have hK : ∀ v, Below w.heap.size w v → Calls Tryz.prog 63 #[.slice (some ⟨b, off, none⟩) (r.length + 2) c] v fun e w' => Fo w' v.heap.size (if nmb x = true ∧ r = [] then some ⟨em, a, [x], [], em, 0, []⟩ else none) e ∧ Below v.heap.size v w' :=
                fun v hv => loss_any a x r _ c v (hR'.below hv) hcap hcm
              cases ho : (if nmb x = true ∧ r = [] then some (⟨em, a, [x], [], em, 0, []⟩ : Sm) else none) with
              | none =>
                have hO := hK
                rw [ho] at hO
                exact (st_loss_no b off r.length c a x w hl' hcap hcm hc0 hc1 hx (isw_eq h4) hO).mono fun e w' h => h
              | some s =>
                have hO := hK
                rw [ho] at hO
                exact (st_loss_yes b off r.length c a x w hl' hcap hcm hc0 hc1 s hx (isw_eq h4) hO).mono fun e w' h => h
            | false =>
              rw [if_neg (by simp)]
              exact (st_other b off r.length c a x w hl' hcap hcm hc0 hc1 hx h1 h2 h3 h4).mono fun e w' h => h

/-- what Parse tells of words -/
def Po (w' : World) (B : Nat) (o : Option Sm) (e : Ending) : Prop :=
  match o with
  | none => e = .returned (.tuple #[zv, .int .i64 2])
  | some s => ∃ v, e = .returned (.tuple #[v, .int .i64 0]) ∧ So w' B v s
set_option maxHeartbeats 1000000 in
theorem parse_no (t : Int) (ao : Option Addr) (n c : Nat) (w : World) (hF : ∀ v, Below w.heap.size w v → Calls Tryz.prog 46 #[.slice ao n c] v fun e w' => e = .returned (.tuple #[zv, .bool false]) ∧ Below v.heap.size v w') :
    Calls Tryz.prog 30 #[.agg #[.int .i64 t, .slice ao n c]] w fun e w' => (e = .returned (.tuple #[zv, .int .i64 2])) ∧ Below w.heap.size w w' := by
  have HF : Hid _ := hF
  clear hF
  go_enter Tryz.func30, Tryz.ntmps30
  go_wp2_with fail
  refine (HF.out _ (((Below.refl _ _).alloc (Nat.le_refl _) _).alloc (by simp) _)).mono ?_
  rintro e w1 ⟨rfl, h1⟩
  have hlt : w.heap.size + 1 < w1.heap.size := by have := h1.size; simp at this; omega
  obtain ⟨q0, q1, q2, q3, q4, q5, q6, f1, hB⟩ := own7 (w := w.alloc (.cells #[.int .i64 t, .slice ao n c] 65)) (r := 41) h1
  rw [show (w.alloc (.cells #[.int .i64 t, .slice ao n c] 65)).heap.size = w.heap.size + 1 by simp] at q0 q1 q2 q3 q4 q5 q6 f1
  have HB : Hid (Below w.heap.size w w1) := ((Below.refl _ _).alloc (Nat.le_refl _) _).trans (hB.mono (by simp))
  clear hB h1
  go_wp2
  refine bodyPost_ret (v := .tuple #[zv, .int .i64 2]) ?_ rfl ⟨rfl, ?_⟩
  · simp [results, Tryz.results30, go_sem, hlt, Nat.ne_of_lt hlt, q0, q1, q2, q3, q4, q5, q6]
  · refine Below.alloc ?_ (by have := HB.out.size; simp; omega) _
    iterate 7 refine Below.setCell ?_ (by simp) _
    exact HB.out
set_option maxHeartbeats 1000000 in
theorem parse_yes (t : Int) (ao : Option Addr) (n c : Nat) (w : World) (s : Sm) (hF : ∀ v, Below w.heap.size w v → Calls Tryz.prog 46 #[.slice ao n c] v fun e w' => (∃ u, e = .returned (.tuple #[u, .bool true]) ∧ So w' v.heap.size u s) ∧ Below v.heap.size v w') :
    Calls Tryz.prog 30 #[.agg #[.int .i64 t, .slice ao n c]] w fun e w' => (∃ u, e = .returned (.tuple #[u, .int .i64 0]) ∧ So w' w.heap.size u s) ∧ Below w.heap.size w w' := by
  have HF : Hid _ := hF
  clear hF
  go_enter Tryz.func30, Tryz.ntmps30
  go_wp2_with fail
  refine (HF.out _ (((Below.refl _ _).alloc (Nat.le_refl _) _).alloc (by simp) _)).mono ?_
  rintro e w1 ⟨⟨u, rfl, hU⟩, h1⟩
  have hlt : w.heap.size + 1 < w1.heap.size := by have := h1.size; simp at this; omega
  obtain ⟨q0, q1, q2, q3, q4, q5, q6, f1, hB⟩ := own7 (w := w.alloc (.cells #[.int .i64 t, .slice ao n c] 65)) (r := 41) h1
  rw [show (w.alloc (.cells #[.int .i64 t, .slice ao n c] 65)).heap.size = w.heap.size + 1 by simp] at q0 q1 q2 q3 q4 q5 q6 f1
  have HB : Hid (Below w.heap.size w w1) := ((Below.refl _ _).alloc (Nat.le_refl _) _).trans (hB.mono (by simp))
  obtain ⟨a1, m1, c1, a2, m2, c2, a3, m3, c3, rfl⟩ := hU.form
  have HU : Hid _ := So.mono hU (show w.heap.size + 2 ≤ _ by simp)
  clear hU
  clear hB h1
  go_wp2
  refine bodyPost_ret (v := .tuple #[sv s.name s.op (.slice a1 m1 c1) (.slice a2 m2 c2) s.k s.n (.slice a3 m3 c3), .int .i64 0]) ?_ rfl ⟨⟨_, rfl, ?_⟩, ?_⟩
  · simp [results, Tryz.results30, go_sem, hlt, Nat.ne_of_lt hlt, q0, q1, q2, q3, q4, q5, q6]
  · refine So.mono (B := w.heap.size + 2) ?_ (by omega)
    refine So.below ?_ ((Below.refl _ _).alloc (Nat.le_refl _) _)
    iterate 7 refine So.set ?_ (by simp) _
    exact HU.out
  · refine Below.alloc ?_ (by have := HB.out.size; simp; omega) _
    iterate 7 refine Below.setCell ?_ (by simp) _
    exact HB.out
theorem Parse_any (t : Int) (ws : List ByteArray) (ao : Option Addr) (c : Nat) (aF aZ : Addr) (w : World) (hE : Er w aF aZ) (hR : Row w ao (txts ws)) (hl : ws.length ≤ 1000000) (hcap : ws.length ≤ c) (hcm : c ≤ maxLen) (hs : ∀ y ∈ ws, y.size ≤ 200000) :
    Calls Tryz.prog 30 #[.agg #[.int .i64 t, .slice ao ws.length c]] w fun e w' => Po w' w.heap.size (par ws) e ∧ Below w.heap.size w w' := by
  have hS : ∀ v, Below w.heap.size w v → Calls Tryz.prog 46 #[.slice ao ws.length c] v fun e w' => Fo w' v.heap.size (par ws) e ∧ Below v.heap.size v w' := fun v hv => statement_any ws ao c aF aZ v (hE.below hv) (hR.below hv) hl hcap hcm hs
  cases hp : par ws with
  | none =>
    rw [hp] at hS
    exact (parse_no t ao ws.length c w hS).mono fun e w' h => h
  | some s =>
    rw [hp] at hS
    exact (parse_yes t ao ws.length c w s hS).mono fun e w' h => h
end Go.Proofs.YtadgnafafdfioaaGreatDoor.Rd
