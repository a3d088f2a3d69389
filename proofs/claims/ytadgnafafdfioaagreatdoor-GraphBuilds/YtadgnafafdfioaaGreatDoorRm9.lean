/-
  WHICH STATEMENT A LINE's WORDS ARE. Conditions: each theorem's own.
-/
import Derived.Test.YtadgnafafdfioaaGreatDoorRl9
namespace Go.Proofs.YtadgnafafdfioaaGreatDoor.Rd
set_option maxRecDepth 100000
open Go.RowKit Nm
set_option linter.unusedVariables false
set_option linter.unusedSimpArgs false

set_option maxHeartbeats 2000000 in
theorem st_eq_no (b off n c : Nat) (a x : ByteArray) (w : World) (hl : n ≤ 1000000) (hcap : n + 2 ≤ c) (hcm : c ≤ maxLen) (hc0 : w.cell? ⟨b, off, none⟩ = some (.string a)) (hc1 : w.cell? ⟨b, off + 1, none⟩ = some (.string x)) (hx : x = ⟨#[61]⟩) (hF : ∀ A, Ag b off c 2 A → ∀ v, Below w.heap.size w v → Calls Tryz.prog 60 #[.string a, .slice (some A) n (c - 2)] v fun e w' => e = .returned (.tuple #[zv, .bool false]) ∧ Below v.heap.size v w') :
    Calls Tryz.prog 46 #[.slice (some ⟨b, off, none⟩) (n + 2) c] w fun e w' => (e = .returned (.tuple #[zv, .bool false])) ∧ Below w.heap.size w w' := by
  subst hx
  obtain ⟨o1, ho1⟩ := ag_some b off c 2
  have HF : Hid _ := hF ⟨b, o1, none⟩ ho1
  clear hF
  have hl0 : b < w.heap.size := row_lt hc0
  go_enter Tryz.func46, Tryz.ntmps46
  go_wp2_with fail
  go_region_with (go_at_call 60; refine (HF.out _ (((Below.refl _ _).alloc (Nat.le_refl _) _).drew)).mono ?_; rintro e w1 ⟨rfl, h1⟩; obtain ⟨q0, q1, q2, q3, q4, q5, q6, f1, hB⟩ := own7 (r := 41) ((Below.drew (Below.refl (w.alloc (.cells z7 41)).heap.size (w.alloc (.cells z7 41)))).trans h1); have HB : Hid _ := hB; clear h1 hB)
  all_goals go_wp2
  all_goals refine bodyPost_ret (v := .tuple #[zv, .bool false]) (by simp [results, Tryz.results46, go_sem, q0, q1, q2, q3, q4, q5, q6]) rfl ⟨rfl, ?_⟩
  all_goals
    iterate 7 refine Below.setCell ?_ (by simp) _
    exact HB.out
set_option maxHeartbeats 2000000 in
theorem st_eq_yes (b off n c : Nat) (a x : ByteArray) (w : World) (hl : n ≤ 1000000) (hcap : n + 2 ≤ c) (hcm : c ≤ maxLen) (hc0 : w.cell? ⟨b, off, none⟩ = some (.string a)) (hc1 : w.cell? ⟨b, off + 1, none⟩ = some (.string x)) (s : Sm) (hx : x = ⟨#[61]⟩) (hF : ∀ A, Ag b off c 2 A → ∀ v, Below w.heap.size w v → Calls Tryz.prog 60 #[.string a, .slice (some A) n (c - 2)] v fun e w' => (∃ u, e = .returned (.tuple #[u, .bool true]) ∧ So w' v.heap.size u s) ∧ Below v.heap.size v w') :
    Calls Tryz.prog 46 #[.slice (some ⟨b, off, none⟩) (n + 2) c] w fun e w' => (∃ u, e = .returned (.tuple #[u, .bool true]) ∧ So w' w.heap.size u s) ∧ Below w.heap.size w w' := by
  subst hx
  obtain ⟨o1, ho1⟩ := ag_some b off c 2
  have HF : Hid _ := hF ⟨b, o1, none⟩ ho1
  clear hF
  have hl0 : b < w.heap.size := row_lt hc0
  go_enter Tryz.func46, Tryz.ntmps46
  go_wp2_with fail
  go_region_with (go_at_call 60; refine (HF.out _ (((Below.refl _ _).alloc (Nat.le_refl _) _).drew)).mono ?_; rintro e w1 ⟨⟨u, rfl, hU⟩, h1⟩; obtain ⟨q0, q1, q2, q3, q4, q5, q6, f1, hB⟩ := own7 (r := 41) ((Below.drew (Below.refl (w.alloc (.cells z7 41)).heap.size (w.alloc (.cells z7 41)))).trans h1); have HB : Hid _ := hB; obtain ⟨a1, m1, c1, a2, m2, c2, a3, m3, c3, rfl⟩ := hU.form; have HU : Hid _ := So.mono hU (show w.heap.size + 1 ≤ _ by simp); clear hU; clear h1 hB)
  all_goals go_wp2
  all_goals refine bodyPost_ret (v := .tuple #[sv s.name s.op (.slice a1 m1 c1) (.slice a2 m2 c2) s.k s.n (.slice a3 m3 c3), .bool true]) (by simp [results, Tryz.results46, go_sem, q0, q1, q2, q3, q4, q5, q6]) rfl ⟨⟨_, rfl, ?_⟩, ?_⟩
  all_goals first
    | (refine So.mono (B := w.heap.size + 1) ?_ (by omega)
       iterate 7 refine So.set ?_ (by simp) _
       exact HU.out)
    | (iterate 7 refine Below.setCell ?_ (by simp) _
       exact HB.out)
set_option maxHeartbeats 1000000 in
theorem st_param_no (b off n c : Nat) (a x : ByteArray) (w : World) (hl : n ≤ 1000000) (hcap : n + 2 ≤ c) (hcm : c ≤ maxLen) (hc0 : w.cell? ⟨b, off, none⟩ = some (.string a)) (hc1 : w.cell? ⟨b, off + 1, none⟩ = some (.string x)) (hx : isw x lEq = false) (ha : a = ⟨#[112, 97, 114, 97, 109]⟩) (hF : ∀ v, Below w.heap.size w v → Calls Tryz.prog 61 #[.slice (some ⟨b, off, none⟩) (n + 2) c] v fun e w' => e = .returned (.tuple #[zv, .bool false]) ∧ Below v.heap.size v w') :
    Calls Tryz.prog 46 #[.slice (some ⟨b, off, none⟩) (n + 2) c] w fun e w' => (e = .returned (.tuple #[zv, .bool false])) ∧ Below w.heap.size w w' := by
  subst ha
  have hx' := isw_l hx
  have HF : Hid _ := hF
  clear hF hx
  have hl0 : b < w.heap.size := row_lt hc0
  go_enter Tryz.func46, Tryz.ntmps46
  go_wp2_with fail
  refine (HF.out _ ((Below.refl _ _).alloc (Nat.le_refl _) _)).mono ?_
  rintro e w1 ⟨rfl, h1⟩
  obtain ⟨q0, q1, q2, q3, q4, q5, q6, f1, hB⟩ := own7 (r := 41) h1
  have HB : Hid _ := hB
  clear h1 hB
  go_wp2
  refine bodyPost_ret (v := .tuple #[zv, .bool false]) (by simp [results, Tryz.results46, go_sem, q0, q1, q2, q3, q4, q5, q6]) rfl ⟨rfl, ?_⟩
  all_goals
    iterate 7 refine Below.setCell ?_ (by simp) _
    exact HB.out
set_option maxHeartbeats 1000000 in
theorem st_param_yes (b off n c : Nat) (a x : ByteArray) (w : World) (hl : n ≤ 1000000) (hcap : n + 2 ≤ c) (hcm : c ≤ maxLen) (hc0 : w.cell? ⟨b, off, none⟩ = some (.string a)) (hc1 : w.cell? ⟨b, off + 1, none⟩ = some (.string x)) (s : Sm) (hx : isw x lEq = false) (ha : a = ⟨#[112, 97, 114, 97, 109]⟩) (hF : ∀ v, Below w.heap.size w v → Calls Tryz.prog 61 #[.slice (some ⟨b, off, none⟩) (n + 2) c] v fun e w' => (∃ u, e = .returned (.tuple #[u, .bool true]) ∧ So w' v.heap.size u s) ∧ Below v.heap.size v w') :
    Calls Tryz.prog 46 #[.slice (some ⟨b, off, none⟩) (n + 2) c] w fun e w' => (∃ u, e = .returned (.tuple #[u, .bool true]) ∧ So w' w.heap.size u s) ∧ Below w.heap.size w w' := by
  subst ha
  have hx' := isw_l hx
  have HF : Hid _ := hF
  clear hF hx
  have hl0 : b < w.heap.size := row_lt hc0
  go_enter Tryz.func46, Tryz.ntmps46
  go_wp2_with fail
  refine (HF.out _ ((Below.refl _ _).alloc (Nat.le_refl _) _)).mono ?_
  rintro e w1 ⟨⟨u, rfl, hU⟩, h1⟩
  obtain ⟨q0, q1, q2, q3, q4, q5, q6, f1, hB⟩ := own7 (r := 41) h1
  have HB : Hid _ := hB
  obtain ⟨a1, m1, c1, a2, m2, c2, a3, m3, c3, rfl⟩ := hU.form
  have HU : Hid _ := So.mono hU (show w.heap.size + 1 ≤ _ by simp)
  clear hU
  clear h1 hB
  go_wp2
  refine bodyPost_ret (v := .tuple #[sv s.name s.op (.slice a1 m1 c1) (.slice a2 m2 c2) s.k s.n (.slice a3 m3 c3), .bool true]) (by simp [results, Tryz.results46, go_sem, q0, q1, q2, q3, q4, q5, q6]) rfl ⟨⟨_, rfl, ?_⟩, ?_⟩
  all_goals first
    | (refine So.mono (B := w.heap.size + 1) ?_ (by omega)
       iterate 7 refine So.set ?_ (by simp) _
       exact HU.out)
    | (iterate 7 refine Below.setCell ?_ (by simp) _
       exact HB.out)
set_option maxHeartbeats 1000000 in
theorem st_input_no (b off n c : Nat) (a x : ByteArray) (w : World) (hl : n ≤ 1000000) (hcap : n + 2 ≤ c) (hcm : c ≤ maxLen) (hc0 : w.cell? ⟨b, off, none⟩ = some (.string a)) (hc1 : w.cell? ⟨b, off + 1, none⟩ = some (.string x)) (hx : isw x lEq = false) (ha : a = ⟨#[105, 110, 112, 117, 116]⟩) (hF : ∀ v, Below w.heap.size w v → Calls Tryz.prog 61 #[.slice (some ⟨b, off, none⟩) (n + 2) c] v fun e w' => e = .returned (.tuple #[zv, .bool false]) ∧ Below v.heap.size v w') :
    Calls Tryz.prog 46 #[.slice (some ⟨b, off, none⟩) (n + 2) c] w fun e w' => (e = .returned (.tuple #[zv, .bool false])) ∧ Below w.heap.size w w' := by
  subst ha
  have hx' := isw_l hx
  have HF : Hid _ := hF
  clear hF hx
  have hl0 : b < w.heap.size := row_lt hc0
  go_enter Tryz.func46, Tryz.ntmps46
  go_wp2_with fail
  refine (HF.out _ ((Below.refl _ _).alloc (Nat.le_refl _) _)).mono ?_
  rintro e w1 ⟨rfl, h1⟩
  obtain ⟨q0, q1, q2, q3, q4, q5, q6, f1, hB⟩ := own7 (r := 41) h1
  have HB : Hid _ := hB
  clear h1 hB
  go_wp2
  refine bodyPost_ret (v := .tuple #[zv, .bool false]) (by simp [results, Tryz.results46, go_sem, q0, q1, q2, q3, q4, q5, q6]) rfl ⟨rfl, ?_⟩
  all_goals
    iterate 7 refine Below.setCell ?_ (by simp) _
    exact HB.out
set_option maxHeartbeats 1000000 in
theorem st_input_yes (b off n c : Nat) (a x : ByteArray) (w : World) (hl : n ≤ 1000000) (hcap : n + 2 ≤ c) (hcm : c ≤ maxLen) (hc0 : w.cell? ⟨b, off, none⟩ = some (.string a)) (hc1 : w.cell? ⟨b, off + 1, none⟩ = some (.string x)) (s : Sm) (hx : isw x lEq = false) (ha : a = ⟨#[105, 110, 112, 117, 116]⟩) (hF : ∀ v, Below w.heap.size w v → Calls Tryz.prog 61 #[.slice (some ⟨b, off, none⟩) (n + 2) c] v fun e w' => (∃ u, e = .returned (.tuple #[u, .bool true]) ∧ So w' v.heap.size u s) ∧ Below v.heap.size v w') :
    Calls Tryz.prog 46 #[.slice (some ⟨b, off, none⟩) (n + 2) c] w fun e w' => (∃ u, e = .returned (.tuple #[u, .bool true]) ∧ So w' w.heap.size u s) ∧ Below w.heap.size w w' := by
  subst ha
  have hx' := isw_l hx
  have HF : Hid _ := hF
  clear hF hx
  have hl0 : b < w.heap.size := row_lt hc0
  go_enter Tryz.func46, Tryz.ntmps46
  go_wp2_with fail
  refine (HF.out _ ((Below.refl _ _).alloc (Nat.le_refl _) _)).mono ?_
  rintro e w1 ⟨⟨u, rfl, hU⟩, h1⟩
  obtain ⟨q0, q1, q2, q3, q4, q5, q6, f1, hB⟩ := own7 (r := 41) h1
  have HB : Hid _ := hB
  obtain ⟨a1, m1, c1, a2, m2, c2, a3, m3, c3, rfl⟩ := hU.form
  have HU : Hid _ := So.mono hU (show w.heap.size + 1 ≤ _ by simp)
  clear hU
  clear h1 hB
  go_wp2
  refine bodyPost_ret (v := .tuple #[sv s.name s.op (.slice a1 m1 c1) (.slice a2 m2 c2) s.k s.n (.slice a3 m3 c3), .bool true]) (by simp [results, Tryz.results46, go_sem, q0, q1, q2, q3, q4, q5, q6]) rfl ⟨⟨_, rfl, ?_⟩, ?_⟩
  all_goals first
    | (refine So.mono (B := w.heap.size + 1) ?_ (by omega)
       iterate 7 refine So.set ?_ (by simp) _
       exact HU.out)
    | (iterate 7 refine Below.setCell ?_ (by simp) _
       exact HB.out)
set_option maxHeartbeats 1000000 in
theorem st_const_no (b off n c : Nat) (a x : ByteArray) (w : World) (hl : n ≤ 1000000) (hcap : n + 2 ≤ c) (hcm : c ≤ maxLen) (hc0 : w.cell? ⟨b, off, none⟩ = some (.string a)) (hc1 : w.cell? ⟨b, off + 1, none⟩ = some (.string x)) (hx : isw x lEq = false) (ha : a = ⟨#[99, 111, 110, 115, 116]⟩) (hF : ∀ v, Below w.heap.size w v → Calls Tryz.prog 62 #[.slice (some ⟨b, off, none⟩) (n + 2) c] v fun e w' => e = .returned (.tuple #[zv, .bool false]) ∧ Below v.heap.size v w') :
    Calls Tryz.prog 46 #[.slice (some ⟨b, off, none⟩) (n + 2) c] w fun e w' => (e = .returned (.tuple #[zv, .bool false])) ∧ Below w.heap.size w w' := by
  subst ha
  have hx' := isw_l hx
  have HF : Hid _ := hF
  clear hF hx
  have hl0 : b < w.heap.size := row_lt hc0
  go_enter Tryz.func46, Tryz.ntmps46
  go_wp2_with fail
  refine (HF.out _ ((Below.refl _ _).alloc (Nat.le_refl _) _)).mono ?_
  rintro e w1 ⟨rfl, h1⟩
  obtain ⟨q0, q1, q2, q3, q4, q5, q6, f1, hB⟩ := own7 (r := 41) h1
  have HB : Hid _ := hB
  clear h1 hB
  go_wp2
  refine bodyPost_ret (v := .tuple #[zv, .bool false]) (by simp [results, Tryz.results46, go_sem, q0, q1, q2, q3, q4, q5, q6]) rfl ⟨rfl, ?_⟩
  all_goals
    iterate 7 refine Below.setCell ?_ (by simp) _
    exact HB.out
set_option maxHeartbeats 1000000 in
theorem st_const_yes (b off n c : Nat) (a x : ByteArray) (w : World) (hl : n ≤ 1000000) (hcap : n + 2 ≤ c) (hcm : c ≤ maxLen) (hc0 : w.cell? ⟨b, off, none⟩ = some (.string a)) (hc1 : w.cell? ⟨b, off + 1, none⟩ = some (.string x)) (s : Sm) (hx : isw x lEq = false) (ha : a = ⟨#[99, 111, 110, 115, 116]⟩) (hF : ∀ v, Below w.heap.size w v → Calls Tryz.prog 62 #[.slice (some ⟨b, off, none⟩) (n + 2) c] v fun e w' => (∃ u, e = .returned (.tuple #[u, .bool true]) ∧ So w' v.heap.size u s) ∧ Below v.heap.size v w') :
    Calls Tryz.prog 46 #[.slice (some ⟨b, off, none⟩) (n + 2) c] w fun e w' => (∃ u, e = .returned (.tuple #[u, .bool true]) ∧ So w' w.heap.size u s) ∧ Below w.heap.size w w' := by
  subst ha
  have hx' := isw_l hx
  have HF : Hid _ := hF
  clear hF hx
  have hl0 : b < w.heap.size := row_lt hc0
  go_enter Tryz.func46, Tryz.ntmps46
  go_wp2_with fail
  refine (HF.out _ ((Below.refl _ _).alloc (Nat.le_refl _) _)).mono ?_
  rintro e w1 ⟨⟨u, rfl, hU⟩, h1⟩
  obtain ⟨q0, q1, q2, q3, q4, q5, q6, f1, hB⟩ := own7 (r := 41) h1
  have HB : Hid _ := hB
  obtain ⟨a1, m1, c1, a2, m2, c2, a3, m3, c3, rfl⟩ := hU.form
  have HU : Hid _ := So.mono hU (show w.heap.size + 1 ≤ _ by simp)
  clear hU
  clear h1 hB
  go_wp2
  refine bodyPost_ret (v := .tuple #[sv s.name s.op (.slice a1 m1 c1) (.slice a2 m2 c2) s.k s.n (.slice a3 m3 c3), .bool true]) (by simp [results, Tryz.results46, go_sem, q0, q1, q2, q3, q4, q5, q6]) rfl ⟨⟨_, rfl, ?_⟩, ?_⟩
  all_goals first
    | (refine So.mono (B := w.heap.size + 1) ?_ (by omega)
       iterate 7 refine So.set ?_ (by simp) _
       exact HU.out)
    | (iterate 7 refine Below.setCell ?_ (by simp) _
       exact HB.out)
set_option maxHeartbeats 1000000 in
theorem st_loss_no (b off n c : Nat) (a x : ByteArray) (w : World) (hl : n ≤ 1000000) (hcap : n + 2 ≤ c) (hcm : c ≤ maxLen) (hc0 : w.cell? ⟨b, off, none⟩ = some (.string a)) (hc1 : w.cell? ⟨b, off + 1, none⟩ = some (.string x)) (hx : isw x lEq = false) (ha : a = ⟨#[108, 111, 115, 115]⟩) (hF : ∀ v, Below w.heap.size w v → Calls Tryz.prog 63 #[.slice (some ⟨b, off, none⟩) (n + 2) c] v fun e w' => e = .returned (.tuple #[zv, .bool false]) ∧ Below v.heap.size v w') :
    Calls Tryz.prog 46 #[.slice (some ⟨b, off, none⟩) (n + 2) c] w fun e w' => (e = .returned (.tuple #[zv, .bool false])) ∧ Below w.heap.size w w' := by
  subst ha
  have hx' := isw_l hx
  have HF : Hid _ := hF
  clear hF hx
  have hl0 : b < w.heap.size := row_lt hc0
  go_enter Tryz.func46, Tryz.ntmps46
  go_wp2_with fail
  refine (HF.out _ ((Below.refl _ _).alloc (Nat.le_refl _) _)).mono ?_
  rintro e w1 ⟨rfl, h1⟩
  obtain ⟨q0, q1, q2, q3, q4, q5, q6, f1, hB⟩ := own7 (r := 41) h1
  have HB : Hid _ := hB
  clear h1 hB
  go_wp2
  refine bodyPost_ret (v := .tuple #[zv, .bool false]) (by simp [results, Tryz.results46, go_sem, q0, q1, q2, q3, q4, q5, q6]) rfl ⟨rfl, ?_⟩
  all_goals
    iterate 7 refine Below.setCell ?_ (by simp) _
    exact HB.out
set_option maxHeartbeats 1000000 in
theorem st_loss_yes (b off n c : Nat) (a x : ByteArray) (w : World) (hl : n ≤ 1000000) (hcap : n + 2 ≤ c) (hcm : c ≤ maxLen) (hc0 : w.cell? ⟨b, off, none⟩ = some (.string a)) (hc1 : w.cell? ⟨b, off + 1, none⟩ = some (.string x)) (s : Sm) (hx : isw x lEq = false) (ha : a = ⟨#[108, 111, 115, 115]⟩) (hF : ∀ v, Below w.heap.size w v → Calls Tryz.prog 63 #[.slice (some ⟨b, off, none⟩) (n + 2) c] v fun e w' => (∃ u, e = .returned (.tuple #[u, .bool true]) ∧ So w' v.heap.size u s) ∧ Below v.heap.size v w') :
    Calls Tryz.prog 46 #[.slice (some ⟨b, off, none⟩) (n + 2) c] w fun e w' => (∃ u, e = .returned (.tuple #[u, .bool true]) ∧ So w' w.heap.size u s) ∧ Below w.heap.size w w' := by
  subst ha
  have hx' := isw_l hx
  have HF : Hid _ := hF
  clear hF hx
  have hl0 : b < w.heap.size := row_lt hc0
  go_enter Tryz.func46, Tryz.ntmps46
  go_wp2_with fail
  refine (HF.out _ ((Below.refl _ _).alloc (Nat.le_refl _) _)).mono ?_
  rintro e w1 ⟨⟨u, rfl, hU⟩, h1⟩
  obtain ⟨q0, q1, q2, q3, q4, q5, q6, f1, hB⟩ := own7 (r := 41) h1
  have HB : Hid _ := hB
  obtain ⟨a1, m1, c1, a2, m2, c2, a3, m3, c3, rfl⟩ := hU.form
  have HU : Hid _ := So.mono hU (show w.heap.size + 1 ≤ _ by simp)
  clear hU
  clear h1 hB
  go_wp2
  refine bodyPost_ret (v := .tuple #[sv s.name s.op (.slice a1 m1 c1) (.slice a2 m2 c2) s.k s.n (.slice a3 m3 c3), .bool true]) (by simp [results, Tryz.results46, go_sem, q0, q1, q2, q3, q4, q5, q6]) rfl ⟨⟨_, rfl, ?_⟩, ?_⟩
  all_goals first
    | (refine So.mono (B := w.heap.size + 1) ?_ (by omega)
       iterate 7 refine So.set ?_ (by simp) _
       exact HU.out)
    | (iterate 7 refine Below.setCell ?_ (by simp) _
       exact HB.out)
set_option maxHeartbeats 1000000 in
theorem st_other (b off n c : Nat) (a x : ByteArray) (w : World) (hl : n ≤ 1000000) (hcap : n + 2 ≤ c) (hcm : c ≤ maxLen) (hc0 : w.cell? ⟨b, off, none⟩ = some (.string a)) (hc1 : w.cell? ⟨b, off + 1, none⟩ = some (.string x)) (hx : isw x lEq = false) (h1 : isw a lParam = false) (h2 : isw a lInput = false) (h3 : isw a lConst = false) (h4 : isw a lLoss = false) :
    Calls Tryz.prog 46 #[.slice (some ⟨b, off, none⟩) (n + 2) c] w fun e w' => e = .returned (.tuple #[zv, .bool false]) ∧ Below w.heap.size w w' := by
  have hx' := isw_l hx
  have g1 := isw_l h1
  have g2 := isw_l h2
  have g3 := isw_l h3
  have g4 := isw_l h4
  clear hx h1 h2 h3 h4
  have hl0 : b < w.heap.size := row_lt hc0
  go_enter Tryz.func46, Tryz.ntmps46
  go_wp2
  refine bodyPost_ret (v := .tuple #[zv, .bool false]) ?_ rfl ⟨rfl, ?_⟩
  · simp [results, Tryz.results46, go_sem]
  · exact (Below.refl _ _).alloc (Nat.le_refl _) _
theorem st_short (ao : Option Addr) (n c : Nat) (w : World) (hn : n < 2) :
    Calls Tryz.prog 46 #[.slice ao n c] w fun e w' => e = .returned (.tuple #[zv, .bool false]) ∧ Below w.heap.size w w' := by
  go_enter Tryz.func46, Tryz.ntmps46
  go_wp2
  refine bodyPost_ret (v := .tuple #[zv, .bool false]) ?_ rfl ⟨rfl, ?_⟩
  · simp [results, Tryz.results46, go_sem]
  · exact (Below.refl _ _).alloc (Nat.le_refl _) _
end Go.Proofs.YtadgnafafdfioaaGreatDoor.Rd
