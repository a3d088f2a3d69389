/-
  THE DOCUMENT's ANSWER FOR WORDS OF THEIR OWN. Conditions: each theorem's own.
-/
import Derived.Test.YtokfkmncabmmcaaGreatDoorRv9
import Derived.Test.YtokfkmncabmmcaaGreatDoorNam
namespace Go.Proofs.YtokfkmncabmmcaaGreatDoor.Rd
set_option maxRecDepth 100000
open Go.RowKit
set_option linter.unusedVariables false
set_option linter.unusedSimpArgs false

theorem rq_short (ao : Option Addr) (N c : Nat) (w : World) (h : N < 2) : Calls Tryz.prog 7 #[.slice ao N c] w fun e w' => e = .returned (.tuple #[zv, .bool false]) ∧ Below w.heap.size w w' := by
  go_enter Tryz.func7, Tryz.ntmps7
  go_wp2
  refine bodyPost_ret (v := .tuple #[zv, .bool false]) ?_ rfl ⟨rfl, ?_⟩
  · simp [results, Tryz.results7, go_sem]
  · exact (Below.refl _ _).alloc (Nat.le_refl _) _
set_option maxHeartbeats 4000000 in
theorem rq_few (a x : ByteArray) (b off N c : Nat) (w : World) (hl : N ≤ 1000) (h2 : 2 ≤ N) (hcap : N ≤ c) (hcm : c ≤ maxLen) (hx0 : x.size ≤ 1000000) (hc0 : w.cell? ⟨b, off, none⟩ = some (.string a)) (hc1 : w.cell? ⟨b, off + 1, none⟩ = some (.string x)) (h3 : ¬ 3 < N) (hn : nmb x = false) :
    Calls Tryz.prog 7 #[.slice (some ⟨b, off, none⟩) N c] w fun e w' => (e = .returned (.tuple #[zv, .bool false])) ∧ Below w.heap.size w w' := by
  have hN := fun w => Lx.refName_any x w hx0
  unfold nmb at hn
  rw [hn] at hN
  have hl0 : b < w.heap.size := row_lt hc0
  have hbn : b ≠ w.heap.size := Nat.ne_of_lt hl0
  have hB0 : Below w.heap.size w (w.alloc (.cells z7 32)) := (Below.refl _ _).alloc (Nat.le_refl _) _
  have HB0 : Hid _ := hB0
  clear hB0
  go_enter Tryz.func7, Tryz.ntmps7
  go_wp2_with fail
  refine (hN _).mono ?_
  rintro e w1 ⟨rfl, rfl⟩
  clear hN
  go_wp2
  refine bodyPost_ret (v := .tuple #[zv, .bool false]) ?_ rfl ⟨rfl, ?_⟩
  · simp [results, Tryz.results7, go_sem]
  · exact HB0.out
set_option maxHeartbeats 4000000 in
theorem rq_name (a x : ByteArray) (b off N c : Nat) (w : World) (hl : N ≤ 1000) (h2 : 2 ≤ N) (hcap : N ≤ c) (hcm : c ≤ maxLen) (hx0 : x.size ≤ 1000000) (hc0 : w.cell? ⟨b, off, none⟩ = some (.string a)) (hc1 : w.cell? ⟨b, off + 1, none⟩ = some (.string x)) (hx : isw x lEq = false) (hn : nmb x = false) :
    Calls Tryz.prog 7 #[.slice (some ⟨b, off, none⟩) N c] w fun e w' => (e = .returned (.tuple #[zv, .bool false])) ∧ Below w.heap.size w w' := by
  have hN := fun w => Lx.refName_any x w hx0
  unfold nmb at hn
  rw [hn] at hN
  have hxe := isw_l hx
  clear hx
  have hl0 : b < w.heap.size := row_lt hc0
  have hbn : b ≠ w.heap.size := Nat.ne_of_lt hl0
  have hB0 : Below w.heap.size w (w.alloc (.cells z7 32)) := (Below.refl _ _).alloc (Nat.le_refl _) _
  have HB0 : Hid _ := hB0
  clear hB0
  by_cases h3 : 3 < N
  · go_enter Tryz.func7, Tryz.ntmps7
    go_wp2_with fail
    refine (hN _).mono ?_
    rintro e w1 ⟨rfl, rfl⟩
    clear hN
    go_wp2
    refine bodyPost_ret (v := .tuple #[zv, .bool false]) ?_ rfl ⟨rfl, ?_⟩
    · simp [results, Tryz.results7, go_sem]
    · exact HB0.out
  · go_enter Tryz.func7, Tryz.ntmps7
    go_wp2_with fail
    refine (hN _).mono ?_
    rintro e w1 ⟨rfl, rfl⟩
    clear hN
    go_wp2
    refine bodyPost_ret (v := .tuple #[zv, .bool false]) ?_ rfl ⟨rfl, ?_⟩
    · simp [results, Tryz.results7, go_sem]
    · exact HB0.out
set_option maxHeartbeats 4000000 in
theorem rq_loss (a x : ByteArray) (b off N c : Nat) (w : World) (hl : N ≤ 1000) (h2 : 2 ≤ N) (hcap : N ≤ c) (hcm : c ≤ maxLen) (hx0 : x.size ≤ 1000000) (hc0 : w.cell? ⟨b, off, none⟩ = some (.string a)) (hc1 : w.cell? ⟨b, off + 1, none⟩ = some (.string x)) (hx : isw x lEq = false) (hn : nmb x = true) (ha : a = ⟨#[108, 111, 115, 115]⟩) (hN2 : N = 2) (o1 : Nat) (ho1 : (if c = 1 then some (⟨b, off, none⟩ : Addr) else some ⟨b, off + 1, none⟩) = some ⟨b, o1, none⟩) :
    Calls Tryz.prog 7 #[.slice (some ⟨b, off, none⟩) N c] w fun e w' => (e = .returned (.tuple #[sv em ⟨#[108, 111, 115, 115]⟩ (.slice (some ⟨b, o1, none⟩) 1 (c - 1)) nils em 0 nils, .bool true])) ∧ Below w.heap.size w w' := by
  subst ha
  subst hN2
  obtain rfl : o1 = off + 1 := by
    rw [if_neg (by omega)] at ho1
    simpa using ho1.symm
  have hN := fun w => Lx.refName_any x w hx0
  unfold nmb at hn
  rw [hn] at hN
  have hxe := isw_l hx
  clear hx
  have hl0 : b < w.heap.size := row_lt hc0
  have hbn : b ≠ w.heap.size := Nat.ne_of_lt hl0
  have hB0 : Below w.heap.size w (w.alloc (.cells z7 32)) := (Below.refl _ _).alloc (Nat.le_refl _) _
  have HB0 : Hid _ := hB0
  clear hB0
  go_enter Tryz.func7, Tryz.ntmps7
  go_wp2_with fail
  refine (hN _).mono ?_
  rintro e w1 ⟨rfl, rfl⟩
  clear hN
  go_wp2
  refine bodyPost_ret (v := .tuple #[sv em ⟨#[108, 111, 115, 115]⟩ (.slice (some ⟨b, off + 1, none⟩) 1 (c - 1)) nils em 0 nils, .bool true]) ?_ rfl ⟨rfl, ?_⟩
  · simp [results, Tryz.results7, go_sem]
  · exact (Below.refl _ _).alloc (Nat.le_refl _) _
set_option maxHeartbeats 4000000 in
theorem rq_lossN (a x : ByteArray) (b off N c : Nat) (w : World) (hl : N ≤ 1000) (h2 : 2 ≤ N) (hcap : N ≤ c) (hcm : c ≤ maxLen) (hx0 : x.size ≤ 1000000) (hc0 : w.cell? ⟨b, off, none⟩ = some (.string a)) (hc1 : w.cell? ⟨b, off + 1, none⟩ = some (.string x)) (hx : isw x lEq = false) (hn : nmb x = true) (ha : a = ⟨#[108, 111, 115, 115]⟩) (hN2 : ((N : Int) == 2) = false) :
    Calls Tryz.prog 7 #[.slice (some ⟨b, off, none⟩) N c] w fun e w' => (e = .returned (.tuple #[zv, .bool false])) ∧ Below w.heap.size w w' := by
  subst ha
  have hN := fun w => Lx.refName_any x w hx0
  unfold nmb at hn
  rw [hn] at hN
  have hxe := isw_l hx
  clear hx
  have hl0 : b < w.heap.size := row_lt hc0
  have hbn : b ≠ w.heap.size := Nat.ne_of_lt hl0
  have hB0 : Below w.heap.size w (w.alloc (.cells z7 32)) := (Below.refl _ _).alloc (Nat.le_refl _) _
  have HB0 : Hid _ := hB0
  clear hB0
  by_cases h3 : 3 < N
  · go_enter Tryz.func7, Tryz.ntmps7
    go_wp2_with fail
    refine (hN _).mono ?_
    rintro e w1 ⟨rfl, rfl⟩
    clear hN
    go_wp2
    refine bodyPost_ret (v := .tuple #[zv, .bool false]) ?_ rfl ⟨rfl, ?_⟩
    · simp [results, Tryz.results7, go_sem]
    · exact HB0.out
  · go_enter Tryz.func7, Tryz.ntmps7
    go_wp2_with fail
    refine (hN _).mono ?_
    rintro e w1 ⟨rfl, rfl⟩
    clear hN
    go_wp2
    refine bodyPost_ret (v := .tuple #[zv, .bool false]) ?_ rfl ⟨rfl, ?_⟩
    · simp [results, Tryz.results7, go_sem]
    · exact HB0.out
set_option maxHeartbeats 4000000 in
theorem rq_other (a x : ByteArray) (b off N c : Nat) (w : World) (hl : N ≤ 1000) (h2 : 2 ≤ N) (hcap : N ≤ c) (hcm : c ≤ maxLen) (hx0 : x.size ≤ 1000000) (hc0 : w.cell? ⟨b, off, none⟩ = some (.string a)) (hc1 : w.cell? ⟨b, off + 1, none⟩ = some (.string x)) (hx : isw x lEq = false) (hn : nmb x = true) (h_1 : isw a lParam = false) (h_2 : isw a lInput = false) (h_3 : isw a lConst = false) (h_4 : isw a lLoss = false) :
    Calls Tryz.prog 7 #[.slice (some ⟨b, off, none⟩) N c] w fun e w' => (e = .returned (.tuple #[zv, .bool false])) ∧ Below w.heap.size w w' := by
  have hN := fun w => Lx.refName_any x w hx0
  unfold nmb at hn
  rw [hn] at hN
  have hxe := isw_l hx
  clear hx
  have g1 := isw_l h_1
  have g2 := isw_l h_2
  have g3 := isw_l h_3
  have g4 := isw_l h_4
  clear h_1 h_2 h_3 h_4
  have hl0 : b < w.heap.size := row_lt hc0
  have hbn : b ≠ w.heap.size := Nat.ne_of_lt hl0
  have hB0 : Below w.heap.size w (w.alloc (.cells z7 32)) := (Below.refl _ _).alloc (Nat.le_refl _) _
  have HB0 : Hid _ := hB0
  clear hB0
  by_cases h3 : 3 < N
  · go_enter Tryz.func7, Tryz.ntmps7
    go_wp2_with fail
    refine (hN _).mono ?_
    rintro e w1 ⟨rfl, rfl⟩
    clear hN
    go_wp2
    refine bodyPost_ret (v := .tuple #[zv, .bool false]) ?_ rfl ⟨rfl, ?_⟩
    · simp [results, Tryz.results7, go_sem]
    · exact HB0.out
  · go_enter Tryz.func7, Tryz.ntmps7
    go_wp2_with fail
    refine (hN _).mono ?_
    rintro e w1 ⟨rfl, rfl⟩
    clear hN
    go_wp2
    refine bodyPost_ret (v := .tuple #[zv, .bool false]) ?_ rfl ⟨rfl, ?_⟩
    · simp [results, Tryz.results7, go_sem]
    · exact HB0.out
set_option maxHeartbeats 4000000 in
theorem rq_paramN (a x : ByteArray) (b off N c : Nat) (w : World) (hl : N ≤ 1000) (h2 : 2 ≤ N) (hcap : N ≤ c) (hcm : c ≤ maxLen) (hx0 : x.size ≤ 1000000) (hc0 : w.cell? ⟨b, off, none⟩ = some (.string a)) (hc1 : w.cell? ⟨b, off + 1, none⟩ = some (.string x)) (hx : isw x lEq = false) (hn : nmb x = true) (ha : a = ⟨#[112, 97, 114, 97, 109]⟩) (o2 : Nat) (ho2 : (if c = 2 then some (⟨b, off, none⟩ : Addr) else some ⟨b, off + 2, none⟩) = some ⟨b, o2, none⟩) (dq : Option (List Int)) (hF : ∀ v, Below w.heap.size w v → Calls Tryz.prog 16 #[.slice (some ⟨b, o2, none⟩) (N - 2) (c - 2)] v fun e w' => ∃ a2 m2 c2, e = .returned (.tuple #[.slice a2 m2 c2, .bool false]) ∧ Dk w' v.heap.size a2 m2 dq ∧ Below v.heap.size v w') :
    Calls Tryz.prog 7 #[.slice (some ⟨b, off, none⟩) N c] w fun e w' => (e = .returned (.tuple #[zv, .bool false])) ∧ Below w.heap.size w w' := by
  subst ha
  have HF : Hid _ := hF
  clear hF
  have hN := fun w => Lx.refName_any x w hx0
  unfold nmb at hn
  rw [hn] at hN
  have hxe := isw_l hx
  clear hx
  have hl0 : b < w.heap.size := row_lt hc0
  have hbn : b ≠ w.heap.size := Nat.ne_of_lt hl0
  have hB0 : Below w.heap.size w (w.alloc (.cells z7 32)) := (Below.refl _ _).alloc (Nat.le_refl _) _
  have HB0 : Hid _ := hB0
  clear hB0
  by_cases hcc : c = 2
  · obtain rfl : o2 = off := by
      rw [if_pos hcc] at ho2
      simpa using ho2.symm
    obtain rfl : N = 2 := by omega
    subst hcc
    clear ho2
    go_enter Tryz.func7, Tryz.ntmps7
    go_wp2_with fail
    refine (hN _).mono ?_
    rintro e w1 ⟨rfl, rfl⟩
    clear hN
    go_wp2_with fail
    refine (HF.out _ HB0.out).mono ?_
    rintro e w3 ⟨a2, m2, c2, rfl, hDk, h3⟩
    obtain ⟨q0, q1, q2, q3, q4, q5, q6, f1, -⟩ := own7 (r := 32) h3
    have HB3 : Hid _ := HB0.out.trans (h3.mono HB0.out.size)
    have x0 := cell_below HB3.out hc0
    have x1 := cell_below HB3.out hc1
    have hs3 : w.heap.size < w3.heap.size := by have := h3.size; simp at this; omega
    have HDk : Hid (Dk w3 (w.heap.size + 1) a2 m2 dq) := Dk.mono hDk (by simp)
    clear h3 hDk HF
    clear x0 x1
    go_wp2
    refine bodyPost_ret (v := .tuple #[zv, .bool false]) ?_ rfl ⟨rfl, ?_⟩
    · simp [results, Tryz.results7, go_sem, q0, q1, q2, q3, q4, q5, q6]
    · iterate 7 refine Below.setCell ?_ (by simp) _
      exact HB3.out
  · obtain rfl : o2 = off + 2 := by
      rw [if_neg hcc] at ho2
      simpa using ho2.symm
    clear ho2
    by_cases h3 : 3 < N
    · go_enter Tryz.func7, Tryz.ntmps7
      go_wp2_with fail
      refine (hN _).mono ?_
      rintro e w1 ⟨rfl, rfl⟩
      clear hN
      go_wp2_with fail
      refine (HF.out _ HB0.out).mono ?_
      rintro e w3 ⟨a2, m2, c2, rfl, hDk, h3⟩
      obtain ⟨q0, q1, q2, q3, q4, q5, q6, f1, -⟩ := own7 (r := 32) h3
      have HB3 : Hid _ := HB0.out.trans (h3.mono HB0.out.size)
      have x0 := cell_below HB3.out hc0
      have x1 := cell_below HB3.out hc1
      have hs3 : w.heap.size < w3.heap.size := by have := h3.size; simp at this; omega
      have HDk : Hid (Dk w3 (w.heap.size + 1) a2 m2 dq) := Dk.mono hDk (by simp)
      clear h3 hDk HF
      clear x0 x1
      go_wp2
      refine bodyPost_ret (v := .tuple #[zv, .bool false]) ?_ rfl ⟨rfl, ?_⟩
      · simp [results, Tryz.results7, go_sem, q0, q1, q2, q3, q4, q5, q6]
      · iterate 7 refine Below.setCell ?_ (by simp) _
        exact HB3.out
    · go_enter Tryz.func7, Tryz.ntmps7
      go_wp2_with fail
      refine (hN _).mono ?_
      rintro e w1 ⟨rfl, rfl⟩
      clear hN
      go_wp2_with fail
      refine (HF.out _ HB0.out).mono ?_
      rintro e w3 ⟨a2, m2, c2, rfl, hDk, h3⟩
      obtain ⟨q0, q1, q2, q3, q4, q5, q6, f1, -⟩ := own7 (r := 32) h3
      have HB3 : Hid _ := HB0.out.trans (h3.mono HB0.out.size)
      have x0 := cell_below HB3.out hc0
      have x1 := cell_below HB3.out hc1
      have hs3 : w.heap.size < w3.heap.size := by have := h3.size; simp at this; omega
      have HDk : Hid (Dk w3 (w.heap.size + 1) a2 m2 dq) := Dk.mono hDk (by simp)
      clear h3 hDk HF
      clear x0 x1
      go_wp2
      refine bodyPost_ret (v := .tuple #[zv, .bool false]) ?_ rfl ⟨rfl, ?_⟩
      · simp [results, Tryz.results7, go_sem, q0, q1, q2, q3, q4, q5, q6]
      · iterate 7 refine Below.setCell ?_ (by simp) _
        exact HB3.out
set_option maxHeartbeats 4000000 in
theorem rq_paramY (a x : ByteArray) (b off N c : Nat) (w : World) (hl : N ≤ 1000) (h2 : 2 ≤ N) (hcap : N ≤ c) (hcm : c ≤ maxLen) (hx0 : x.size ≤ 1000000) (hc0 : w.cell? ⟨b, off, none⟩ = some (.string a)) (hc1 : w.cell? ⟨b, off + 1, none⟩ = some (.string x)) (hx : isw x lEq = false) (hn : nmb x = true) (ha : a = ⟨#[112, 97, 114, 97, 109]⟩) (o2 : Nat) (ho2 : (if c = 2 then some (⟨b, off, none⟩ : Addr) else some ⟨b, off + 2, none⟩) = some ⟨b, o2, none⟩) (dq : Option (List Int)) (hF : ∀ v, Below w.heap.size w v → Calls Tryz.prog 16 #[.slice (some ⟨b, o2, none⟩) (N - 2) (c - 2)] v fun e w' => ∃ a2 m2 c2, e = .returned (.tuple #[.slice a2 m2 c2, .bool true]) ∧ Dk w' v.heap.size a2 m2 dq ∧ Below v.heap.size v w') :
    Calls Tryz.prog 7 #[.slice (some ⟨b, off, none⟩) N c] w fun e w' => (∃ a2 m2 c2, e = .returned (.tuple #[sv x ⟨#[112, 97, 114, 97, 109]⟩ nils (.slice a2 m2 c2) em 0 nils, .bool true]) ∧ Dk w' w.heap.size a2 m2 dq) ∧ Below w.heap.size w w' := by
  subst ha
  have HF : Hid _ := hF
  clear hF
  have hN := fun w => Lx.refName_any x w hx0
  unfold nmb at hn
  rw [hn] at hN
  have hxe := isw_l hx
  clear hx
  have hl0 : b < w.heap.size := row_lt hc0
  have hbn : b ≠ w.heap.size := Nat.ne_of_lt hl0
  have hB0 : Below w.heap.size w (w.alloc (.cells z7 32)) := (Below.refl _ _).alloc (Nat.le_refl _) _
  have HB0 : Hid _ := hB0
  clear hB0
  by_cases hcc : c = 2
  · obtain rfl : o2 = off := by
      rw [if_pos hcc] at ho2
      simpa using ho2.symm
    obtain rfl : N = 2 := by omega
    subst hcc
    clear ho2
    go_enter Tryz.func7, Tryz.ntmps7
    go_wp2_with fail
    refine (hN _).mono ?_
    rintro e w1 ⟨rfl, rfl⟩
    clear hN
    go_wp2_with fail
    refine (HF.out _ HB0.out).mono ?_
    rintro e w3 ⟨a2, m2, c2, rfl, hDk, h3⟩
    obtain ⟨q0, q1, q2, q3, q4, q5, q6, f1, -⟩ := own7 (r := 32) h3
    have HB3 : Hid _ := HB0.out.trans (h3.mono HB0.out.size)
    have x0 := cell_below HB3.out hc0
    have x1 := cell_below HB3.out hc1
    have hs3 : w.heap.size < w3.heap.size := by have := h3.size; simp at this; omega
    have HDk : Hid (Dk w3 (w.heap.size + 1) a2 m2 dq) := Dk.mono hDk (by simp)
    clear h3 hDk HF
    go_wp2_with fail
    go_region
    go_wp2
    refine bodyPost_ret (v := .tuple #[sv x ⟨#[112, 97, 114, 97, 109]⟩ nils (.slice a2 m2 c2) em 0 nils, .bool true]) ?_ rfl ⟨⟨a2, m2, c2, rfl, ?_⟩, ?_⟩
    · simp [results, Tryz.results7, go_sem, q0, q1, q2, q3, q4, q5, q6]
    · refine Dk.mono (B := w.heap.size + 1) ?_ (by omega)
      refine Dk.below ?_ (Below.drew (Below.refl _ _))
      iterate 7 refine Dk.set ?_ (by simp) _
      exact HDk.out
    · refine Below.drew ?_
      iterate 7 refine Below.setCell ?_ (by simp) _
      exact HB3.out
  · obtain rfl : o2 = off + 2 := by
      rw [if_neg hcc] at ho2
      simpa using ho2.symm
    clear ho2
    by_cases h3 : 3 < N
    · go_enter Tryz.func7, Tryz.ntmps7
      go_wp2_with fail
      refine (hN _).mono ?_
      rintro e w1 ⟨rfl, rfl⟩
      clear hN
      go_wp2_with fail
      refine (HF.out _ HB0.out).mono ?_
      rintro e w3 ⟨a2, m2, c2, rfl, hDk, h3⟩
      obtain ⟨q0, q1, q2, q3, q4, q5, q6, f1, -⟩ := own7 (r := 32) h3
      have HB3 : Hid _ := HB0.out.trans (h3.mono HB0.out.size)
      have x0 := cell_below HB3.out hc0
      have x1 := cell_below HB3.out hc1
      have hs3 : w.heap.size < w3.heap.size := by have := h3.size; simp at this; omega
      have HDk : Hid (Dk w3 (w.heap.size + 1) a2 m2 dq) := Dk.mono hDk (by simp)
      clear h3 hDk HF
      go_wp2_with fail
      go_region
      go_wp2
      refine bodyPost_ret (v := .tuple #[sv x ⟨#[112, 97, 114, 97, 109]⟩ nils (.slice a2 m2 c2) em 0 nils, .bool true]) ?_ rfl ⟨⟨a2, m2, c2, rfl, ?_⟩, ?_⟩
      · simp [results, Tryz.results7, go_sem, q0, q1, q2, q3, q4, q5, q6]
      · refine Dk.mono (B := w.heap.size + 1) ?_ (by omega)
        refine Dk.below ?_ (Below.drew (Below.refl _ _))
        iterate 7 refine Dk.set ?_ (by simp) _
        exact HDk.out
      · refine Below.drew ?_
        iterate 7 refine Below.setCell ?_ (by simp) _
        exact HB3.out
    · go_enter Tryz.func7, Tryz.ntmps7
      go_wp2_with fail
      refine (hN _).mono ?_
      rintro e w1 ⟨rfl, rfl⟩
      clear hN
      go_wp2_with fail
      refine (HF.out _ HB0.out).mono ?_
      rintro e w3 ⟨a2, m2, c2, rfl, hDk, h3⟩
      obtain ⟨q0, q1, q2, q3, q4, q5, q6, f1, -⟩ := own7 (r := 32) h3
      have HB3 : Hid _ := HB0.out.trans (h3.mono HB0.out.size)
      have x0 := cell_below HB3.out hc0
      have x1 := cell_below HB3.out hc1
      have hs3 : w.heap.size < w3.heap.size := by have := h3.size; simp at this; omega
      have HDk : Hid (Dk w3 (w.heap.size + 1) a2 m2 dq) := Dk.mono hDk (by simp)
      clear h3 hDk HF
      go_wp2_with fail
      go_region
      go_wp2
      refine bodyPost_ret (v := .tuple #[sv x ⟨#[112, 97, 114, 97, 109]⟩ nils (.slice a2 m2 c2) em 0 nils, .bool true]) ?_ rfl ⟨⟨a2, m2, c2, rfl, ?_⟩, ?_⟩
      · simp [results, Tryz.results7, go_sem, q0, q1, q2, q3, q4, q5, q6]
      · refine Dk.mono (B := w.heap.size + 1) ?_ (by omega)
        refine Dk.below ?_ (Below.drew (Below.refl _ _))
        iterate 7 refine Dk.set ?_ (by simp) _
        exact HDk.out
      · refine Below.drew ?_
        iterate 7 refine Below.setCell ?_ (by simp) _
        exact HB3.out
set_option maxHeartbeats 4000000 in
theorem rq_inputN (a x : ByteArray) (b off N c : Nat) (w : World) (hl : N ≤ 1000) (h2 : 2 ≤ N) (hcap : N ≤ c) (hcm : c ≤ maxLen) (hx0 : x.size ≤ 1000000) (hc0 : w.cell? ⟨b, off, none⟩ = some (.string a)) (hc1 : w.cell? ⟨b, off + 1, none⟩ = some (.string x)) (hx : isw x lEq = false) (hn : nmb x = true) (ha : a = ⟨#[105, 110, 112, 117, 116]⟩) (o2 : Nat) (ho2 : (if c = 2 then some (⟨b, off, none⟩ : Addr) else some ⟨b, off + 2, none⟩) = some ⟨b, o2, none⟩) (dq : Option (List Int)) (hF : ∀ v, Below w.heap.size w v → Calls Tryz.prog 16 #[.slice (some ⟨b, o2, none⟩) (N - 2) (c - 2)] v fun e w' => ∃ a2 m2 c2, e = .returned (.tuple #[.slice a2 m2 c2, .bool false]) ∧ Dk w' v.heap.size a2 m2 dq ∧ Below v.heap.size v w') :
    Calls Tryz.prog 7 #[.slice (some ⟨b, off, none⟩) N c] w fun e w' => (e = .returned (.tuple #[zv, .bool false])) ∧ Below w.heap.size w w' := by
  subst ha
  have HF : Hid _ := hF
  clear hF
  have hN := fun w => Lx.refName_any x w hx0
  unfold nmb at hn
  rw [hn] at hN
  have hxe := isw_l hx
  clear hx
  have hl0 : b < w.heap.size := row_lt hc0
  have hbn : b ≠ w.heap.size := Nat.ne_of_lt hl0
  have hB0 : Below w.heap.size w (w.alloc (.cells z7 32)) := (Below.refl _ _).alloc (Nat.le_refl _) _
  have HB0 : Hid _ := hB0
  clear hB0
  by_cases hcc : c = 2
  · obtain rfl : o2 = off := by
      rw [if_pos hcc] at ho2
      simpa using ho2.symm
    obtain rfl : N = 2 := by omega
    subst hcc
    clear ho2
    go_enter Tryz.func7, Tryz.ntmps7
    go_wp2_with fail
    refine (hN _).mono ?_
    rintro e w1 ⟨rfl, rfl⟩
    clear hN
    go_wp2_with fail
    refine (HF.out _ HB0.out).mono ?_
    rintro e w3 ⟨a2, m2, c2, rfl, hDk, h3⟩
    obtain ⟨q0, q1, q2, q3, q4, q5, q6, f1, -⟩ := own7 (r := 32) h3
    have HB3 : Hid _ := HB0.out.trans (h3.mono HB0.out.size)
    have x0 := cell_below HB3.out hc0
    have x1 := cell_below HB3.out hc1
    have hs3 : w.heap.size < w3.heap.size := by have := h3.size; simp at this; omega
    have HDk : Hid (Dk w3 (w.heap.size + 1) a2 m2 dq) := Dk.mono hDk (by simp)
    clear h3 hDk HF
    clear x0 x1
    go_wp2
    refine bodyPost_ret (v := .tuple #[zv, .bool false]) ?_ rfl ⟨rfl, ?_⟩
    · simp [results, Tryz.results7, go_sem, q0, q1, q2, q3, q4, q5, q6]
    · iterate 7 refine Below.setCell ?_ (by simp) _
      exact HB3.out
  · obtain rfl : o2 = off + 2 := by
      rw [if_neg hcc] at ho2
      simpa using ho2.symm
    clear ho2
    by_cases h3 : 3 < N
    · go_enter Tryz.func7, Tryz.ntmps7
      go_wp2_with fail
      refine (hN _).mono ?_
      rintro e w1 ⟨rfl, rfl⟩
      clear hN
      go_wp2_with fail
      refine (HF.out _ HB0.out).mono ?_
      rintro e w3 ⟨a2, m2, c2, rfl, hDk, h3⟩
      obtain ⟨q0, q1, q2, q3, q4, q5, q6, f1, -⟩ := own7 (r := 32) h3
      have HB3 : Hid _ := HB0.out.trans (h3.mono HB0.out.size)
      have x0 := cell_below HB3.out hc0
      have x1 := cell_below HB3.out hc1
      have hs3 : w.heap.size < w3.heap.size := by have := h3.size; simp at this; omega
      have HDk : Hid (Dk w3 (w.heap.size + 1) a2 m2 dq) := Dk.mono hDk (by simp)
      clear h3 hDk HF
      clear x0 x1
      go_wp2
      refine bodyPost_ret (v := .tuple #[zv, .bool false]) ?_ rfl ⟨rfl, ?_⟩
      · simp [results, Tryz.results7, go_sem, q0, q1, q2, q3, q4, q5, q6]
      · iterate 7 refine Below.setCell ?_ (by simp) _
        exact HB3.out
    · go_enter Tryz.func7, Tryz.ntmps7
      go_wp2_with fail
      refine (hN _).mono ?_
      rintro e w1 ⟨rfl, rfl⟩
      clear hN
      go_wp2_with fail
      refine (HF.out _ HB0.out).mono ?_
      rintro e w3 ⟨a2, m2, c2, rfl, hDk, h3⟩
      obtain ⟨q0, q1, q2, q3, q4, q5, q6, f1, -⟩ := own7 (r := 32) h3
      have HB3 : Hid _ := HB0.out.trans (h3.mono HB0.out.size)
      have x0 := cell_below HB3.out hc0
      have x1 := cell_below HB3.out hc1
      have hs3 : w.heap.size < w3.heap.size := by have := h3.size; simp at this; omega
      have HDk : Hid (Dk w3 (w.heap.size + 1) a2 m2 dq) := Dk.mono hDk (by simp)
      clear h3 hDk HF
      clear x0 x1
      go_wp2
      refine bodyPost_ret (v := .tuple #[zv, .bool false]) ?_ rfl ⟨rfl, ?_⟩
      · simp [results, Tryz.results7, go_sem, q0, q1, q2, q3, q4, q5, q6]
      · iterate 7 refine Below.setCell ?_ (by simp) _
        exact HB3.out
set_option maxHeartbeats 4000000 in
theorem rq_inputY (a x : ByteArray) (b off N c : Nat) (w : World) (hl : N ≤ 1000) (h2 : 2 ≤ N) (hcap : N ≤ c) (hcm : c ≤ maxLen) (hx0 : x.size ≤ 1000000) (hc0 : w.cell? ⟨b, off, none⟩ = some (.string a)) (hc1 : w.cell? ⟨b, off + 1, none⟩ = some (.string x)) (hx : isw x lEq = false) (hn : nmb x = true) (ha : a = ⟨#[105, 110, 112, 117, 116]⟩) (o2 : Nat) (ho2 : (if c = 2 then some (⟨b, off, none⟩ : Addr) else some ⟨b, off + 2, none⟩) = some ⟨b, o2, none⟩) (dq : Option (List Int)) (hF : ∀ v, Below w.heap.size w v → Calls Tryz.prog 16 #[.slice (some ⟨b, o2, none⟩) (N - 2) (c - 2)] v fun e w' => ∃ a2 m2 c2, e = .returned (.tuple #[.slice a2 m2 c2, .bool true]) ∧ Dk w' v.heap.size a2 m2 dq ∧ Below v.heap.size v w') :
    Calls Tryz.prog 7 #[.slice (some ⟨b, off, none⟩) N c] w fun e w' => (∃ a2 m2 c2, e = .returned (.tuple #[sv x ⟨#[105, 110, 112, 117, 116]⟩ nils (.slice a2 m2 c2) em 0 nils, .bool true]) ∧ Dk w' w.heap.size a2 m2 dq) ∧ Below w.heap.size w w' := by
  subst ha
  have HF : Hid _ := hF
  clear hF
  have hN := fun w => Lx.refName_any x w hx0
  unfold nmb at hn
  rw [hn] at hN
  have hxe := isw_l hx
  clear hx
  have hl0 : b < w.heap.size := row_lt hc0
  have hbn : b ≠ w.heap.size := Nat.ne_of_lt hl0
  have hB0 : Below w.heap.size w (w.alloc (.cells z7 32)) := (Below.refl _ _).alloc (Nat.le_refl _) _
  have HB0 : Hid _ := hB0
  clear hB0
  by_cases hcc : c = 2
  · obtain rfl : o2 = off := by
      rw [if_pos hcc] at ho2
      simpa using ho2.symm
    obtain rfl : N = 2 := by omega
    subst hcc
    clear ho2
    go_enter Tryz.func7, Tryz.ntmps7
    go_wp2_with fail
    refine (hN _).mono ?_
    rintro e w1 ⟨rfl, rfl⟩
    clear hN
    go_wp2_with fail
    refine (HF.out _ HB0.out).mono ?_
    rintro e w3 ⟨a2, m2, c2, rfl, hDk, h3⟩
    obtain ⟨q0, q1, q2, q3, q4, q5, q6, f1, -⟩ := own7 (r := 32) h3
    have HB3 : Hid _ := HB0.out.trans (h3.mono HB0.out.size)
    have x0 := cell_below HB3.out hc0
    have x1 := cell_below HB3.out hc1
    have hs3 : w.heap.size < w3.heap.size := by have := h3.size; simp at this; omega
    have HDk : Hid (Dk w3 (w.heap.size + 1) a2 m2 dq) := Dk.mono hDk (by simp)
    clear h3 hDk HF
    go_wp2_with fail
    go_region
    go_wp2
    refine bodyPost_ret (v := .tuple #[sv x ⟨#[105, 110, 112, 117, 116]⟩ nils (.slice a2 m2 c2) em 0 nils, .bool true]) ?_ rfl ⟨⟨a2, m2, c2, rfl, ?_⟩, ?_⟩
    · simp [results, Tryz.results7, go_sem, q0, q1, q2, q3, q4, q5, q6]
    · refine Dk.mono (B := w.heap.size + 1) ?_ (by omega)
      refine Dk.below ?_ (Below.drew (Below.refl _ _))
      iterate 7 refine Dk.set ?_ (by simp) _
      exact HDk.out
    · refine Below.drew ?_
      iterate 7 refine Below.setCell ?_ (by simp) _
      exact HB3.out
  · obtain rfl : o2 = off + 2 := by
      rw [if_neg hcc] at ho2
      simpa using ho2.symm
    clear ho2
    by_cases h3 : 3 < N
    · go_enter Tryz.func7, Tryz.ntmps7
      go_wp2_with fail
      refine (hN _).mono ?_
      rintro e w1 ⟨rfl, rfl⟩
      clear hN
      go_wp2_with fail
      refine (HF.out _ HB0.out).mono ?_
      rintro e w3 ⟨a2, m2, c2, rfl, hDk, h3⟩
      obtain ⟨q0, q1, q2, q3, q4, q5, q6, f1, -⟩ := own7 (r := 32) h3
      have HB3 : Hid _ := HB0.out.trans (h3.mono HB0.out.size)
      have x0 := cell_below HB3.out hc0
      have x1 := cell_below HB3.out hc1
      have hs3 : w.heap.size < w3.heap.size := by have := h3.size; simp at this; omega
      have HDk : Hid (Dk w3 (w.heap.size + 1) a2 m2 dq) := Dk.mono hDk (by simp)
      clear h3 hDk HF
      go_wp2_with fail
      go_region
      go_wp2
      refine bodyPost_ret (v := .tuple #[sv x ⟨#[105, 110, 112, 117, 116]⟩ nils (.slice a2 m2 c2) em 0 nils, .bool true]) ?_ rfl ⟨⟨a2, m2, c2, rfl, ?_⟩, ?_⟩
      · simp [results, Tryz.results7, go_sem, q0, q1, q2, q3, q4, q5, q6]
      · refine Dk.mono (B := w.heap.size + 1) ?_ (by omega)
        refine Dk.below ?_ (Below.drew (Below.refl _ _))
        iterate 7 refine Dk.set ?_ (by simp) _
        exact HDk.out
      · refine Below.drew ?_
        iterate 7 refine Below.setCell ?_ (by simp) _
        exact HB3.out
    · go_enter Tryz.func7, Tryz.ntmps7
      go_wp2_with fail
      refine (hN _).mono ?_
      rintro e w1 ⟨rfl, rfl⟩
      clear hN
      go_wp2_with fail
      refine (HF.out _ HB0.out).mono ?_
      rintro e w3 ⟨a2, m2, c2, rfl, hDk, h3⟩
      obtain ⟨q0, q1, q2, q3, q4, q5, q6, f1, -⟩ := own7 (r := 32) h3
      have HB3 : Hid _ := HB0.out.trans (h3.mono HB0.out.size)
      have x0 := cell_below HB3.out hc0
      have x1 := cell_below HB3.out hc1
      have hs3 : w.heap.size < w3.heap.size := by have := h3.size; simp at this; omega
      have HDk : Hid (Dk w3 (w.heap.size + 1) a2 m2 dq) := Dk.mono hDk (by simp)
      clear h3 hDk HF
      go_wp2_with fail
      go_region
      go_wp2
      refine bodyPost_ret (v := .tuple #[sv x ⟨#[105, 110, 112, 117, 116]⟩ nils (.slice a2 m2 c2) em 0 nils, .bool true]) ?_ rfl ⟨⟨a2, m2, c2, rfl, ?_⟩, ?_⟩
      · simp [results, Tryz.results7, go_sem, q0, q1, q2, q3, q4, q5, q6]
      · refine Dk.mono (B := w.heap.size + 1) ?_ (by omega)
        refine Dk.below ?_ (Below.drew (Below.refl _ _))
        iterate 7 refine Dk.set ?_ (by simp) _
        exact HDk.out
      · refine Below.drew ?_
        iterate 7 refine Below.setCell ?_ (by simp) _
        exact HB3.out
end Go.Proofs.YtokfkmncabmmcaaGreatDoor.Rd
