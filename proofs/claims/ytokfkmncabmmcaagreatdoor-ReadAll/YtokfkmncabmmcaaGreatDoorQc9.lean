/-
  THE DOCUMENT's ANSWER FOR const. Conditions: each theorem's own.
-/
import Derived.Test.YtokfkmncabmmcaaGreatDoorRv9
import Derived.Test.YtokfkmncabmmcaaGreatDoorNam
namespace Go.Proofs.YtokfkmncabmmcaaGreatDoor.Rd
set_option maxRecDepth 100000
open Go.RowKit
set_option linter.unusedVariables false
set_option linter.unusedSimpArgs false

set_option maxHeartbeats 4000000 in
theorem rc_none (a x : ByteArray) (b off N c : Nat) (w : World) (hl : N ≤ 1000) (h2 : 2 ≤ N) (hcap : N ≤ c) (hcm : c ≤ maxLen) (hx0 : x.size ≤ 1000000) (hc0 : w.cell? ⟨b, off, none⟩ = some (.string a)) (hc1 : w.cell? ⟨b, off + 1, none⟩ = some (.string x)) (hx : isw x lEq = false) (hn : nmb x = true) (ha : a = ⟨#[99, 111, 110, 115, 116]⟩) (ws : List ByteArray) (hrow : ∀ m, m < N → w.cell? ⟨b, off + m, none⟩ = some (.string (ws.getD m em))) (hno : ∀ m, 2 ≤ m → m < N → isw (ws.getD m em) lEq = false) :
    Calls Tryz.prog 7 #[.slice (some ⟨b, off, none⟩) N c] w fun e w' => (e = .returned (.tuple #[zv, .bool false])) ∧ Below w.heap.size w w' := by
  subst ha
  have HG : Hid (∀ m, m < N → (w.alloc (.cells z7 32)).cell? ⟨b, off + m, none⟩ = some (.string (ws.getD m em))) := fun m hm => cell_below ((Below.refl _ _).alloc (Nat.le_refl _) _) (hrow m hm)
  clear hrow
  have hno' : Hid _ := hno
  clear hno
  have hN := fun w => Lx.refName_any x w hx0
  unfold nmb at hn
  rw [hn] at hN
  have hxe := isw_l hx
  clear hx
  have hl0 : b < w.heap.size := row_lt hc0
  have hbn : b ≠ w.heap.size := Nat.ne_of_lt hl0
  have hB0 : Below w.heap.size w (w.alloc (.cells z7 32)) := (Below.refl _ _).alloc (Nat.le_refl _) _
  have HB0 : Hid _ := hB0
  clear hB0
  by_cases h3 : 3 < N
  · go_enter Tryz.func7, Tryz.ntmps7
    go_wp2_with fail
    refine (hN _).mono ?_
    rintro e w1 ⟨rfl, rfl⟩
    clear hN
    go_wp2_with fail
    go_loop [12] (fun i => ∃ k : Nat, 2 ≤ k ∧ k ≤ N ∧ i = .int .i64 (k : Int)) (fun i => N - (intOf i).toNat)
    case atStart => exact ⟨2, by omega, by omega, rfl⟩
    case round =>
      obtain ⟨k, hk2, hk, rfl⟩ := hrel
      by_cases h : k < N
      · have hc := HG.out k h
        have he := isw_l (hno'.out k hk2 h)
        obtain ⟨y, hy⟩ : ∃ z, ws.getD k em = z := ⟨_, rfl⟩
        rw [hy] at hc he
        clear hy
        go_wp2
        go_round
        case rel => exact ⟨k + 1, by omega, by omega, by go_num⟩
        case measure => simp [intOf]; omega
      · obtain rfl : k = N := by omega
        go_wp2
        refine bodyPost_ret (v := .tuple #[zv, .bool false]) ?_ rfl ⟨rfl, ?_⟩
        · simp [results, Tryz.results7, go_sem]
        · exact HB0.out
  · go_enter Tryz.func7, Tryz.ntmps7
    go_wp2_with fail
    refine (hN _).mono ?_
    rintro e w1 ⟨rfl, rfl⟩
    clear hN
    go_wp2_with fail
    go_loop [12] (fun i => ∃ k : Nat, 2 ≤ k ∧ k ≤ N ∧ i = .int .i64 (k : Int)) (fun i => N - (intOf i).toNat)
    case atStart => exact ⟨2, by omega, by omega, rfl⟩
    case round =>
      obtain ⟨k, hk2, hk, rfl⟩ := hrel
      by_cases h : k < N
      · have hc := HG.out k h
        have he := isw_l (hno'.out k hk2 h)
        obtain ⟨y, hy⟩ : ∃ z, ws.getD k em = z := ⟨_, rfl⟩
        rw [hy] at hc he
        clear hy
        go_wp2
        go_round
        case rel => exact ⟨k + 1, by omega, by omega, by go_num⟩
        case measure => simp [intOf]; omega
      · obtain rfl : k = N := by omega
        go_wp2
        refine bodyPost_ret (v := .tuple #[zv, .bool false]) ?_ rfl ⟨rfl, ?_⟩
        · simp [results, Tryz.results7, go_sem]
        · exact HB0.out
set_option maxHeartbeats 4000000 in
theorem rc_dims (a x : ByteArray) (b off N c : Nat) (w : World) (hl : N ≤ 1000) (h2 : 2 ≤ N) (hcap : N ≤ c) (hcm : c ≤ maxLen) (hx0 : x.size ≤ 1000000) (hc0 : w.cell? ⟨b, off, none⟩ = some (.string a)) (hc1 : w.cell? ⟨b, off + 1, none⟩ = some (.string x)) (hx : isw x lEq = false) (hn : nmb x = true) (ha : a = ⟨#[99, 111, 110, 115, 116]⟩) (ws : List ByteArray) (hrow : ∀ m, m < N → w.cell? ⟨b, off + m, none⟩ = some (.string (ws.getD m em))) (j : Nat) (hj2 : 2 ≤ j) (hj : j < N) (hje : isw (ws.getD j em) lEq = true) (hjf : ∀ m, 2 ≤ m → m < j → isw (ws.getD m em) lEq = false) (o2 : Nat) (ho2 : (if c = 2 then some (⟨b, off, none⟩ : Addr) else some ⟨b, off + 2, none⟩) = some ⟨b, o2, none⟩) (dq : Option (List Int)) (hF : ∀ v, Below w.heap.size w v → Calls Tryz.prog 16 #[.slice (some ⟨b, o2, none⟩) (j - 2) (c - 2)] v fun e w' => ∃ a2 m2 c2, e = .returned (.tuple #[.slice a2 m2 c2, .bool false]) ∧ Dk w' v.heap.size a2 m2 dq ∧ Below v.heap.size v w') (o3 : Nat) (ho3 : (if c = j + 1 then some (⟨b, off, none⟩ : Addr) else some ⟨b, off + (j + 1), none⟩) = some ⟨b, o3, none⟩) :
    Calls Tryz.prog 7 #[.slice (some ⟨b, off, none⟩) N c] w fun e w' => (e = .returned (.tuple #[zv, .bool false])) ∧ Below w.heap.size w w' := by
  subst ha
  have HG : Hid (∀ m, m < N → (w.alloc (.cells z7 32)).cell? ⟨b, off + m, none⟩ = some (.string (ws.getD m em))) := fun m hm => cell_below ((Below.refl _ _).alloc (Nat.le_refl _) _) (hrow m hm)
  clear hrow
  have HJF : Hid _ := hjf
  have HJE : Hid _ := hje
  have HF : Hid _ := hF
  clear hjf hje hF
  have hN := fun w => Lx.refName_any x w hx0
  unfold nmb at hn
  rw [hn] at hN
  have hxe := isw_l hx
  clear hx
  have hl0 : b < w.heap.size := row_lt hc0
  have hbn : b ≠ w.heap.size := Nat.ne_of_lt hl0
  have hB0 : Below w.heap.size w (w.alloc (.cells z7 32)) := (Below.refl _ _).alloc (Nat.le_refl _) _
  have HB0 : Hid _ := hB0
  clear hB0
  have hcc : ¬ c = 2 := by omega
  obtain rfl : o2 = off + 2 := by
    rw [if_neg hcc] at ho2
    simpa using ho2.symm
  clear ho2
  by_cases h3 : 3 < N
  · go_enter Tryz.func7, Tryz.ntmps7
    go_wp2_with fail
    refine (hN _).mono ?_
    rintro e w1 ⟨rfl, rfl⟩
    clear hN
    go_wp2_with fail
    go_loop [12] (fun i => ∃ k : Nat, 2 ≤ k ∧ k ≤ j ∧ i = .int .i64 (k : Int)) (fun i => N - (intOf i).toNat)
    case atStart => exact ⟨2, by omega, by omega, rfl⟩
    case round =>
      obtain ⟨k, hk2, hk, rfl⟩ := hrel
      have hc := HG.out k (by omega)
      by_cases h : k < j
      · first
          | (exfalso; omega)
          | (have he := isw_l (HJF.out k hk2 h)
             obtain ⟨y, hy⟩ : ∃ z, ws.getD k em = z := ⟨_, rfl⟩
             rw [hy] at hc he
             clear hy
             go_wp2
             go_round
             case rel => exact ⟨k + 1, by omega, by omega, by go_num⟩
             case measure => simp [intOf]; omega)
      · obtain rfl : k = j := by omega
        have he := isw_l HJE.out
        obtain ⟨y, hy⟩ : ∃ z, ws.getD k em = z := ⟨_, rfl⟩
        rw [hy] at hc he
        clear hy
        go_wp2_with fail
        refine (HF.out _ HB0.out).mono ?_
        rintro e w3 ⟨a2, m2, c2, rfl, hDk, h3⟩
        obtain ⟨q0, q1, q2, q3, q4, q5, q6, f1, -⟩ := own7 (r := 32) h3
        have HB3 : Hid _ := HB0.out.trans (h3.mono HB0.out.size)
        have x0 := cell_below HB3.out hc0
        have x1 := cell_below HB3.out hc1
        have hs3 : w.heap.size < w3.heap.size := by have := h3.size; simp at this; omega
        have HDk : Hid (Dk w3 (w.heap.size + 1) a2 m2 dq) := Dk.mono hDk (by simp)
        clear h3 hDk HF
        clear x0 x1 hc
        go_wp2
        refine bodyPost_ret (v := .tuple #[zv, .bool false]) ?_ rfl ⟨rfl, ?_⟩
        · simp [results, Tryz.results7, go_sem, q0, q1, q2, q3, q4, q5, q6]
        · iterate 7 refine Below.setCell ?_ (by simp) _
          exact HB3.out
  · go_enter Tryz.func7, Tryz.ntmps7
    go_wp2_with fail
    refine (hN _).mono ?_
    rintro e w1 ⟨rfl, rfl⟩
    clear hN
    go_wp2_with fail
    go_loop [12] (fun i => ∃ k : Nat, 2 ≤ k ∧ k ≤ j ∧ i = .int .i64 (k : Int)) (fun i => N - (intOf i).toNat)
    case atStart => exact ⟨2, by omega, by omega, rfl⟩
    case round =>
      obtain ⟨k, hk2, hk, rfl⟩ := hrel
      have hc := HG.out k (by omega)
      by_cases h : k < j
      · first
          | (exfalso; omega)
          | (have he := isw_l (HJF.out k hk2 h)
             obtain ⟨y, hy⟩ : ∃ z, ws.getD k em = z := ⟨_, rfl⟩
             rw [hy] at hc he
             clear hy
             go_wp2
             go_round
             case rel => exact ⟨k + 1, by omega, by omega, by go_num⟩
             case measure => simp [intOf]; omega)
      · obtain rfl : k = j := by omega
        have he := isw_l HJE.out
        obtain ⟨y, hy⟩ : ∃ z, ws.getD k em = z := ⟨_, rfl⟩
        rw [hy] at hc he
        clear hy
        go_wp2_with fail
        refine (HF.out _ HB0.out).mono ?_
        rintro e w3 ⟨a2, m2, c2, rfl, hDk, h3⟩
        obtain ⟨q0, q1, q2, q3, q4, q5, q6, f1, -⟩ := own7 (r := 32) h3
        have HB3 : Hid _ := HB0.out.trans (h3.mono HB0.out.size)
        have x0 := cell_below HB3.out hc0
        have x1 := cell_below HB3.out hc1
        have hs3 : w.heap.size < w3.heap.size := by have := h3.size; simp at this; omega
        have HDk : Hid (Dk w3 (w.heap.size + 1) a2 m2 dq) := Dk.mono hDk (by simp)
        clear h3 hDk HF
        clear x0 x1 hc
        go_wp2
        refine bodyPost_ret (v := .tuple #[zv, .bool false]) ?_ rfl ⟨rfl, ?_⟩
        · simp [results, Tryz.results7, go_sem, q0, q1, q2, q3, q4, q5, q6]
        · iterate 7 refine Below.setCell ?_ (by simp) _
          exact HB3.out
set_option maxHeartbeats 4000000 in
theorem rc_len (a x : ByteArray) (b off N c : Nat) (w : World) (hl : N ≤ 1000) (h2 : 2 ≤ N) (hcap : N ≤ c) (hcm : c ≤ maxLen) (hx0 : x.size ≤ 1000000) (hc0 : w.cell? ⟨b, off, none⟩ = some (.string a)) (hc1 : w.cell? ⟨b, off + 1, none⟩ = some (.string x)) (hx : isw x lEq = false) (hn : nmb x = true) (ha : a = ⟨#[99, 111, 110, 115, 116]⟩) (ws : List ByteArray) (hrow : ∀ m, m < N → w.cell? ⟨b, off + m, none⟩ = some (.string (ws.getD m em))) (j : Nat) (hj2 : 2 ≤ j) (hj : j < N) (hje : isw (ws.getD j em) lEq = true) (hjf : ∀ m, 2 ≤ m → m < j → isw (ws.getD m em) lEq = false) (o2 : Nat) (ho2 : (if c = 2 then some (⟨b, off, none⟩ : Addr) else some ⟨b, off + 2, none⟩) = some ⟨b, o2, none⟩) (dq : Option (List Int)) (hF : ∀ v, Below w.heap.size w v → Calls Tryz.prog 16 #[.slice (some ⟨b, o2, none⟩) (j - 2) (c - 2)] v fun e w' => ∃ a2 m2 c2, e = .returned (.tuple #[.slice a2 m2 c2, .bool true]) ∧ Dk w' v.heap.size a2 m2 dq ∧ Below v.heap.size v w') (o3 : Nat) (ho3 : (if c = j + 1 then some (⟨b, off, none⟩ : Addr) else some ⟨b, off + (j + 1), none⟩) = some ⟨b, o3, none⟩) (m : Nat) (hm : m ≤ 64) (hS : ∀ a2 m2 c2 v B, Dk v B a2 m2 dq → Calls Tryz.prog 17 #[.slice a2 m2 c2] v fun e w' => e = .returned (.int .i64 (m : Int)) ∧ w' = v) (hq : (((N - (j + 1) : Nat) : Int) != (m : Int)) = true) :
    Calls Tryz.prog 7 #[.slice (some ⟨b, off, none⟩) N c] w fun e w' => (e = .returned (.tuple #[zv, .bool false])) ∧ Below w.heap.size w w' := by
  subst ha
  have HG : Hid (∀ m, m < N → (w.alloc (.cells z7 32)).cell? ⟨b, off + m, none⟩ = some (.string (ws.getD m em))) := fun m hm => cell_below ((Below.refl _ _).alloc (Nat.le_refl _) _) (hrow m hm)
  clear hrow
  have HJF : Hid _ := hjf
  have HJE : Hid _ := hje
  have HF : Hid _ := hF
  clear hjf hje hF
  have HS : Hid _ := hS
  clear hS
  have hN := fun w => Lx.refName_any x w hx0
  unfold nmb at hn
  rw [hn] at hN
  have hxe := isw_l hx
  clear hx
  have hl0 : b < w.heap.size := row_lt hc0
  have hbn : b ≠ w.heap.size := Nat.ne_of_lt hl0
  have hB0 : Below w.heap.size w (w.alloc (.cells z7 32)) := (Below.refl _ _).alloc (Nat.le_refl _) _
  have HB0 : Hid _ := hB0
  clear hB0
  have hcc : ¬ c = 2 := by omega
  obtain rfl : o2 = off + 2 := by
    rw [if_neg hcc] at ho2
    simpa using ho2.symm
  clear ho2
  by_cases h3 : 3 < N
  · go_enter Tryz.func7, Tryz.ntmps7
    go_wp2_with fail
    refine (hN _).mono ?_
    rintro e w1 ⟨rfl, rfl⟩
    clear hN
    go_wp2_with fail
    go_loop [12] (fun i => ∃ k : Nat, 2 ≤ k ∧ k ≤ j ∧ i = .int .i64 (k : Int)) (fun i => N - (intOf i).toNat)
    case atStart => exact ⟨2, by omega, by omega, rfl⟩
    case round =>
      obtain ⟨k, hk2, hk, rfl⟩ := hrel
      have hc := HG.out k (by omega)
      by_cases h : k < j
      · first
          | (exfalso; omega)
          | (have he := isw_l (HJF.out k hk2 h)
             obtain ⟨y, hy⟩ : ∃ z, ws.getD k em = z := ⟨_, rfl⟩
             rw [hy] at hc he
             clear hy
             go_wp2
             go_round
             case rel => exact ⟨k + 1, by omega, by omega, by go_num⟩
             case measure => simp [intOf]; omega)
      · obtain rfl : k = j := by omega
        have he := isw_l HJE.out
        obtain ⟨y, hy⟩ : ∃ z, ws.getD k em = z := ⟨_, rfl⟩
        rw [hy] at hc he
        clear hy
        go_wp2_with fail
        refine (HF.out _ HB0.out).mono ?_
        rintro e w3 ⟨a2, m2, c2, rfl, hDk, h3⟩
        obtain ⟨q0, q1, q2, q3, q4, q5, q6, f1, -⟩ := own7 (r := 32) h3
        have HB3 : Hid _ := HB0.out.trans (h3.mono HB0.out.size)
        have x0 := cell_below HB3.out hc0
        have x1 := cell_below HB3.out hc1
        have hs3 : w.heap.size < w3.heap.size := by have := h3.size; simp at this; omega
        have HDk : Hid (Dk w3 (w.heap.size + 1) a2 m2 dq) := Dk.mono hDk (by simp)
        clear h3 hDk HF
        go_wp2_with fail
        refine (HS.out _ _ _ _ _ HDk.out).mono ?_
        rintro e w4 ⟨rfl, rfl⟩
        clear x0 x1 hc
        go_wp2
        refine bodyPost_ret (v := .tuple #[zv, .bool false]) ?_ rfl ⟨rfl, ?_⟩
        · simp [results, Tryz.results7, go_sem, q0, q1, q2, q3, q4, q5, q6]
        · iterate 7 refine Below.setCell ?_ (by simp) _
          exact HB3.out
  · go_enter Tryz.func7, Tryz.ntmps7
    go_wp2_with fail
    refine (hN _).mono ?_
    rintro e w1 ⟨rfl, rfl⟩
    clear hN
    go_wp2_with fail
    go_loop [12] (fun i => ∃ k : Nat, 2 ≤ k ∧ k ≤ j ∧ i = .int .i64 (k : Int)) (fun i => N - (intOf i).toNat)
    case atStart => exact ⟨2, by omega, by omega, rfl⟩
    case round =>
      obtain ⟨k, hk2, hk, rfl⟩ := hrel
      have hc := HG.out k (by omega)
      by_cases h : k < j
      · first
          | (exfalso; omega)
          | (have he := isw_l (HJF.out k hk2 h)
             obtain ⟨y, hy⟩ : ∃ z, ws.getD k em = z := ⟨_, rfl⟩
             rw [hy] at hc he
             clear hy
             go_wp2
             go_round
             case rel => exact ⟨k + 1, by omega, by omega, by go_num⟩
             case measure => simp [intOf]; omega)
      · obtain rfl : k = j := by omega
        have he := isw_l HJE.out
        obtain ⟨y, hy⟩ : ∃ z, ws.getD k em = z := ⟨_, rfl⟩
        rw [hy] at hc he
        clear hy
        go_wp2_with fail
        refine (HF.out _ HB0.out).mono ?_
        rintro e w3 ⟨a2, m2, c2, rfl, hDk, h3⟩
        obtain ⟨q0, q1, q2, q3, q4, q5, q6, f1, -⟩ := own7 (r := 32) h3
        have HB3 : Hid _ := HB0.out.trans (h3.mono HB0.out.size)
        have x0 := cell_below HB3.out hc0
        have x1 := cell_below HB3.out hc1
        have hs3 : w.heap.size < w3.heap.size := by have := h3.size; simp at this; omega
        have HDk : Hid (Dk w3 (w.heap.size + 1) a2 m2 dq) := Dk.mono hDk (by simp)
        clear h3 hDk HF
        go_wp2_with fail
        refine (HS.out _ _ _ _ _ HDk.out).mono ?_
        rintro e w4 ⟨rfl, rfl⟩
        clear x0 x1 hc
        go_wp2
        refine bodyPost_ret (v := .tuple #[zv, .bool false]) ?_ rfl ⟨rfl, ?_⟩
        · simp [results, Tryz.results7, go_sem, q0, q1, q2, q3, q4, q5, q6]
        · iterate 7 refine Below.setCell ?_ (by simp) _
          exact HB3.out
set_option maxHeartbeats 4000000 in
theorem rc_rat (a x : ByteArray) (b off N c : Nat) (w : World) (hl : N ≤ 1000) (h2 : 2 ≤ N) (hcap : N ≤ c) (hcm : c ≤ maxLen) (hx0 : x.size ≤ 1000000) (hc0 : w.cell? ⟨b, off, none⟩ = some (.string a)) (hc1 : w.cell? ⟨b, off + 1, none⟩ = some (.string x)) (hx : isw x lEq = false) (hn : nmb x = true) (ha : a = ⟨#[99, 111, 110, 115, 116]⟩) (ws : List ByteArray) (hrow : ∀ m, m < N → w.cell? ⟨b, off + m, none⟩ = some (.string (ws.getD m em))) (j : Nat) (hj2 : 2 ≤ j) (hj : j < N) (hje : isw (ws.getD j em) lEq = true) (hjf : ∀ m, 2 ≤ m → m < j → isw (ws.getD m em) lEq = false) (o2 : Nat) (ho2 : (if c = 2 then some (⟨b, off, none⟩ : Addr) else some ⟨b, off + 2, none⟩) = some ⟨b, o2, none⟩) (dq : Option (List Int)) (hF : ∀ v, Below w.heap.size w v → Calls Tryz.prog 16 #[.slice (some ⟨b, o2, none⟩) (j - 2) (c - 2)] v fun e w' => ∃ a2 m2 c2, e = .returned (.tuple #[.slice a2 m2 c2, .bool true]) ∧ Dk w' v.heap.size a2 m2 dq ∧ Below v.heap.size v w') (o3 : Nat) (ho3 : (if c = j + 1 then some (⟨b, off, none⟩ : Addr) else some ⟨b, off + (j + 1), none⟩) = some ⟨b, o3, none⟩) (m : Nat) (hm : m ≤ 64) (hS : ∀ a2 m2 c2 v B, Dk v B a2 m2 dq → Calls Tryz.prog 17 #[.slice a2 m2 c2] v fun e w' => e = .returned (.int .i64 (m : Int)) ∧ w' = v) (hq : (((N - (j + 1) : Nat) : Int) != (m : Int)) = false) (hA : ∀ v, Below w.heap.size w v → Calls Tryz.prog 14 #[.slice (some ⟨b, o3, none⟩) (N - (j + 1)) (c - (j + 1))] v fun e w' => e = .returned (.bool false) ∧ Below v.heap.size v w') :
    Calls Tryz.prog 7 #[.slice (some ⟨b, off, none⟩) N c] w fun e w' => (e = .returned (.tuple #[zv, .bool false])) ∧ Below w.heap.size w w' := by
  subst ha
  have HG : Hid (∀ m, m < N → (w.alloc (.cells z7 32)).cell? ⟨b, off + m, none⟩ = some (.string (ws.getD m em))) := fun m hm => cell_below ((Below.refl _ _).alloc (Nat.le_refl _) _) (hrow m hm)
  clear hrow
  have HJF : Hid _ := hjf
  have HJE : Hid _ := hje
  have HF : Hid _ := hF
  clear hjf hje hF
  have HS : Hid _ := hS
  clear hS
  have HA : Hid _ := hA
  clear hA
  have hN := fun w => Lx.refName_any x w hx0
  unfold nmb at hn
  rw [hn] at hN
  have hxe := isw_l hx
  clear hx
  have hl0 : b < w.heap.size := row_lt hc0
  have hbn : b ≠ w.heap.size := Nat.ne_of_lt hl0
  have hB0 : Below w.heap.size w (w.alloc (.cells z7 32)) := (Below.refl _ _).alloc (Nat.le_refl _) _
  have HB0 : Hid _ := hB0
  clear hB0
  have hcc : ¬ c = 2 := by omega
  obtain rfl : o2 = off + 2 := by
    rw [if_neg hcc] at ho2
    simpa using ho2.symm
  clear ho2
  by_cases h3 : 3 < N
  · go_enter Tryz.func7, Tryz.ntmps7
    go_wp2_with fail
    refine (hN _).mono ?_
    rintro e w1 ⟨rfl, rfl⟩
    clear hN
    go_wp2_with fail
    go_loop [12] (fun i => ∃ k : Nat, 2 ≤ k ∧ k ≤ j ∧ i = .int .i64 (k : Int)) (fun i => N - (intOf i).toNat)
    case atStart => exact ⟨2, by omega, by omega, rfl⟩
    case round =>
      obtain ⟨k, hk2, hk, rfl⟩ := hrel
      have hc := HG.out k (by omega)
      by_cases h : k < j
      · first
          | (exfalso; omega)
          | (have he := isw_l (HJF.out k hk2 h)
             obtain ⟨y, hy⟩ : ∃ z, ws.getD k em = z := ⟨_, rfl⟩
             rw [hy] at hc he
             clear hy
             go_wp2
             go_round
             case rel => exact ⟨k + 1, by omega, by omega, by go_num⟩
             case measure => simp [intOf]; omega)
      · obtain rfl : k = j := by omega
        have he := isw_l HJE.out
        obtain ⟨y, hy⟩ : ∃ z, ws.getD k em = z := ⟨_, rfl⟩
        rw [hy] at hc he
        clear hy
        go_wp2_with fail
        refine (HF.out _ HB0.out).mono ?_
        rintro e w3 ⟨a2, m2, c2, rfl, hDk, h3⟩
        obtain ⟨q0, q1, q2, q3, q4, q5, q6, f1, -⟩ := own7 (r := 32) h3
        have HB3 : Hid _ := HB0.out.trans (h3.mono HB0.out.size)
        have x0 := cell_below HB3.out hc0
        have x1 := cell_below HB3.out hc1
        have hs3 : w.heap.size < w3.heap.size := by have := h3.size; simp at this; omega
        have HDk : Hid (Dk w3 (w.heap.size + 1) a2 m2 dq) := Dk.mono hDk (by simp)
        clear h3 hDk HF
        go_wp2_with fail
        refine (HS.out _ _ _ _ _ HDk.out).mono ?_
        rintro e w4 ⟨rfl, rfl⟩
        go_wp2_with fail
        refine (HA.out _ HB3.out).mono ?_
        rintro e w5 ⟨rfl, h5⟩
        have r0 := cell_below h5 q0
        have r1 := cell_below h5 q1
        have r2 := cell_below h5 q2
        have r3 := cell_below h5 q3
        have r4 := cell_below h5 q4
        have r5 := cell_below h5 q5
        have r6 := cell_below h5 q6
        have rf : ∀ i, w5.frozen? ⟨w.heap.size, i, none⟩ = false := fun i => frozen_below h5 hs3 (f1 i)
        have x1' := cell_below h5 x1
        have HD5 : Hid _ := Dk.below HDk.out h5
        have HB5 : Hid _ := HB3.out.trans (h5.mono HB3.out.size)
        clear h5 q0 q1 q2 q3 q4 q5 q6 f1 x0 x1 hc
        go_wp2
        refine bodyPost_ret (v := .tuple #[zv, .bool false]) ?_ rfl ⟨rfl, ?_⟩
        · simp [results, Tryz.results7, go_sem, r0, r1, r2, r3, r4, r5, r6]
        · iterate 7 refine Below.setCell ?_ (by simp) _
          exact HB5.out
  · go_enter Tryz.func7, Tryz.ntmps7
    go_wp2_with fail
    refine (hN _).mono ?_
    rintro e w1 ⟨rfl, rfl⟩
    clear hN
    go_wp2_with fail
    go_loop [12] (fun i => ∃ k : Nat, 2 ≤ k ∧ k ≤ j ∧ i = .int .i64 (k : Int)) (fun i => N - (intOf i).toNat)
    case atStart => exact ⟨2, by omega, by omega, rfl⟩
    case round =>
      obtain ⟨k, hk2, hk, rfl⟩ := hrel
      have hc := HG.out k (by omega)
      by_cases h : k < j
      · first
          | (exfalso; omega)
          | (have he := isw_l (HJF.out k hk2 h)
             obtain ⟨y, hy⟩ : ∃ z, ws.getD k em = z := ⟨_, rfl⟩
             rw [hy] at hc he
             clear hy
             go_wp2
             go_round
             case rel => exact ⟨k + 1, by omega, by omega, by go_num⟩
             case measure => simp [intOf]; omega)
      · obtain rfl : k = j := by omega
        have he := isw_l HJE.out
        obtain ⟨y, hy⟩ : ∃ z, ws.getD k em = z := ⟨_, rfl⟩
        rw [hy] at hc he
        clear hy
        go_wp2_with fail
        refine (HF.out _ HB0.out).mono ?_
        rintro e w3 ⟨a2, m2, c2, rfl, hDk, h3⟩
        obtain ⟨q0, q1, q2, q3, q4, q5, q6, f1, -⟩ := own7 (r := 32) h3
        have HB3 : Hid _ := HB0.out.trans (h3.mono HB0.out.size)
        have x0 := cell_below HB3.out hc0
        have x1 := cell_below HB3.out hc1
        have hs3 : w.heap.size < w3.heap.size := by have := h3.size; simp at this; omega
        have HDk : Hid (Dk w3 (w.heap.size + 1) a2 m2 dq) := Dk.mono hDk (by simp)
        clear h3 hDk HF
        go_wp2_with fail
        refine (HS.out _ _ _ _ _ HDk.out).mono ?_
        rintro e w4 ⟨rfl, rfl⟩
        go_wp2_with fail
        refine (HA.out _ HB3.out).mono ?_
        rintro e w5 ⟨rfl, h5⟩
        have r0 := cell_below h5 q0
        have r1 := cell_below h5 q1
        have r2 := cell_below h5 q2
        have r3 := cell_below h5 q3
        have r4 := cell_below h5 q4
        have r5 := cell_below h5 q5
        have r6 := cell_below h5 q6
        have rf : ∀ i, w5.frozen? ⟨w.heap.size, i, none⟩ = false := fun i => frozen_below h5 hs3 (f1 i)
        have x1' := cell_below h5 x1
        have HD5 : Hid _ := Dk.below HDk.out h5
        have HB5 : Hid _ := HB3.out.trans (h5.mono HB3.out.size)
        clear h5 q0 q1 q2 q3 q4 q5 q6 f1 x0 x1 hc
        go_wp2
        refine bodyPost_ret (v := .tuple #[zv, .bool false]) ?_ rfl ⟨rfl, ?_⟩
        · simp [results, Tryz.results7, go_sem, r0, r1, r2, r3, r4, r5, r6]
        · iterate 7 refine Below.setCell ?_ (by simp) _
          exact HB5.out
set_option maxHeartbeats 4000000 in
theorem rc_yes (a x : ByteArray) (b off N c : Nat) (w : World) (hl : N ≤ 1000) (h2 : 2 ≤ N) (hcap : N ≤ c) (hcm : c ≤ maxLen) (hx0 : x.size ≤ 1000000) (hc0 : w.cell? ⟨b, off, none⟩ = some (.string a)) (hc1 : w.cell? ⟨b, off + 1, none⟩ = some (.string x)) (hx : isw x lEq = false) (hn : nmb x = true) (ha : a = ⟨#[99, 111, 110, 115, 116]⟩) (ws : List ByteArray) (hrow : ∀ m, m < N → w.cell? ⟨b, off + m, none⟩ = some (.string (ws.getD m em))) (j : Nat) (hj2 : 2 ≤ j) (hj : j < N) (hje : isw (ws.getD j em) lEq = true) (hjf : ∀ m, 2 ≤ m → m < j → isw (ws.getD m em) lEq = false) (o2 : Nat) (ho2 : (if c = 2 then some (⟨b, off, none⟩ : Addr) else some ⟨b, off + 2, none⟩) = some ⟨b, o2, none⟩) (dq : Option (List Int)) (hF : ∀ v, Below w.heap.size w v → Calls Tryz.prog 16 #[.slice (some ⟨b, o2, none⟩) (j - 2) (c - 2)] v fun e w' => ∃ a2 m2 c2, e = .returned (.tuple #[.slice a2 m2 c2, .bool true]) ∧ Dk w' v.heap.size a2 m2 dq ∧ Below v.heap.size v w') (o3 : Nat) (ho3 : (if c = j + 1 then some (⟨b, off, none⟩ : Addr) else some ⟨b, off + (j + 1), none⟩) = some ⟨b, o3, none⟩) (m : Nat) (hm : m ≤ 64) (hS : ∀ a2 m2 c2 v B, Dk v B a2 m2 dq → Calls Tryz.prog 17 #[.slice a2 m2 c2] v fun e w' => e = .returned (.int .i64 (m : Int)) ∧ w' = v) (hq : (((N - (j + 1) : Nat) : Int) != (m : Int)) = false) (hA : ∀ v, Below w.heap.size w v → Calls Tryz.prog 14 #[.slice (some ⟨b, o3, none⟩) (N - (j + 1)) (c - (j + 1))] v fun e w' => e = .returned (.bool true) ∧ Below v.heap.size v w') :
    Calls Tryz.prog 7 #[.slice (some ⟨b, off, none⟩) N c] w fun e w' => (∃ a2 m2 c2, e = .returned (.tuple #[sv x ⟨#[99, 111, 110, 115, 116]⟩ nils (.slice a2 m2 c2) em 0 (.slice (some ⟨b, o3, none⟩) (N - (j + 1)) (c - (j + 1))), .bool true]) ∧ Dk w' w.heap.size a2 m2 dq) ∧ Below w.heap.size w w' := by
  subst ha
  have HG : Hid (∀ m, m < N → (w.alloc (.cells z7 32)).cell? ⟨b, off + m, none⟩ = some (.string (ws.getD m em))) := fun m hm => cell_below ((Below.refl _ _).alloc (Nat.le_refl _) _) (hrow m hm)
  clear hrow
  have HJF : Hid _ := hjf
  have HJE : Hid _ := hje
  have HF : Hid _ := hF
  clear hjf hje hF
  have HS : Hid _ := hS
  clear hS
  have HA : Hid _ := hA
  clear hA
  have hN := fun w => Lx.refName_any x w hx0
  unfold nmb at hn
  rw [hn] at hN
  have hxe := isw_l hx
  clear hx
  have hl0 : b < w.heap.size := row_lt hc0
  have hbn : b ≠ w.heap.size := Nat.ne_of_lt hl0
  have hB0 : Below w.heap.size w (w.alloc (.cells z7 32)) := (Below.refl _ _).alloc (Nat.le_refl _) _
  have HB0 : Hid _ := hB0
  clear hB0
  have hcc : ¬ c = 2 := by omega
  obtain rfl : o2 = off + 2 := by
    rw [if_neg hcc] at ho2
    simpa using ho2.symm
  clear ho2
  by_cases h3 : 3 < N
  · go_enter Tryz.func7, Tryz.ntmps7
    go_wp2_with fail
    refine (hN _).mono ?_
    rintro e w1 ⟨rfl, rfl⟩
    clear hN
    go_wp2_with fail
    go_loop [12] (fun i => ∃ k : Nat, 2 ≤ k ∧ k ≤ j ∧ i = .int .i64 (k : Int)) (fun i => N - (intOf i).toNat)
    case atStart => exact ⟨2, by omega, by omega, rfl⟩
    case round =>
      obtain ⟨k, hk2, hk, rfl⟩ := hrel
      have hc := HG.out k (by omega)
      by_cases h : k < j
      · first
          | (exfalso; omega)
          | (have he := isw_l (HJF.out k hk2 h)
             obtain ⟨y, hy⟩ : ∃ z, ws.getD k em = z := ⟨_, rfl⟩
             rw [hy] at hc he
             clear hy
             go_wp2
             go_round
             case rel => exact ⟨k + 1, by omega, by omega, by go_num⟩
             case measure => simp [intOf]; omega)
      · obtain rfl : k = j := by omega
        have he := isw_l HJE.out
        obtain ⟨y, hy⟩ : ∃ z, ws.getD k em = z := ⟨_, rfl⟩
        rw [hy] at hc he
        clear hy
        go_wp2_with fail
        refine (HF.out _ HB0.out).mono ?_
        rintro e w3 ⟨a2, m2, c2, rfl, hDk, h3⟩
        obtain ⟨q0, q1, q2, q3, q4, q5, q6, f1, -⟩ := own7 (r := 32) h3
        have HB3 : Hid _ := HB0.out.trans (h3.mono HB0.out.size)
        have x0 := cell_below HB3.out hc0
        have x1 := cell_below HB3.out hc1
        have hs3 : w.heap.size < w3.heap.size := by have := h3.size; simp at this; omega
        have HDk : Hid (Dk w3 (w.heap.size + 1) a2 m2 dq) := Dk.mono hDk (by simp)
        clear h3 hDk HF
        go_wp2_with fail
        refine (HS.out _ _ _ _ _ HDk.out).mono ?_
        rintro e w4 ⟨rfl, rfl⟩
        go_wp2_with fail
        refine (HA.out _ HB3.out).mono ?_
        rintro e w5 ⟨rfl, h5⟩
        have r0 := cell_below h5 q0
        have r1 := cell_below h5 q1
        have r2 := cell_below h5 q2
        have r3 := cell_below h5 q3
        have r4 := cell_below h5 q4
        have r5 := cell_below h5 q5
        have r6 := cell_below h5 q6
        have rf : ∀ i, w5.frozen? ⟨w.heap.size, i, none⟩ = false := fun i => frozen_below h5 hs3 (f1 i)
        have x1' := cell_below h5 x1
        have HD5 : Hid _ := Dk.below HDk.out h5
        have HB5 : Hid _ := HB3.out.trans (h5.mono HB3.out.size)
        clear h5 q0 q1 q2 q3 q4 q5 q6 f1 x0 x1 hc
        go_wp2
        refine bodyPost_ret (v := .tuple #[sv x ⟨#[99, 111, 110, 115, 116]⟩ nils (.slice a2 m2 c2) em 0 (.slice (some ⟨b, o3, none⟩) (N - (k + 1)) (c - (k + 1))), .bool true]) ?_ rfl ⟨⟨a2, m2, c2, rfl, ?_⟩, ?_⟩
        · simp [results, Tryz.results7, go_sem, r0, r1, r2, r3, r4, r5, r6]
        · refine Dk.mono (B := w.heap.size + 1) ?_ (by omega)
          iterate 7 refine Dk.set ?_ (by simp) _
          exact HD5.out
        · iterate 7 refine Below.setCell ?_ (by simp) _
          exact HB5.out
  · go_enter Tryz.func7, Tryz.ntmps7
    go_wp2_with fail
    refine (hN _).mono ?_
    rintro e w1 ⟨rfl, rfl⟩
    clear hN
    go_wp2_with fail
    go_loop [12] (fun i => ∃ k : Nat, 2 ≤ k ∧ k ≤ j ∧ i = .int .i64 (k : Int)) (fun i => N - (intOf i).toNat)
    case atStart => exact ⟨2, by omega, by omega, rfl⟩
    case round =>
      obtain ⟨k, hk2, hk, rfl⟩ := hrel
      have hc := HG.out k (by omega)
      by_cases h : k < j
      · first
          | (exfalso; omega)
          | (have he := isw_l (HJF.out k hk2 h)
             obtain ⟨y, hy⟩ : ∃ z, ws.getD k em = z := ⟨_, rfl⟩
             rw [hy] at hc he
             clear hy
             go_wp2
             go_round
             case rel => exact ⟨k + 1, by omega, by omega, by go_num⟩
             case measure => simp [intOf]; omega)
      · obtain rfl : k = j := by omega
        have he := isw_l HJE.out
        obtain ⟨y, hy⟩ : ∃ z, ws.getD k em = z := ⟨_, rfl⟩
        rw [hy] at hc he
        clear hy
        go_wp2_with fail
        refine (HF.out _ HB0.out).mono ?_
        rintro e w3 ⟨a2, m2, c2, rfl, hDk, h3⟩
        obtain ⟨q0, q1, q2, q3, q4, q5, q6, f1, -⟩ := own7 (r := 32) h3
        have HB3 : Hid _ := HB0.out.trans (h3.mono HB0.out.size)
        have x0 := cell_below HB3.out hc0
        have x1 := cell_below HB3.out hc1
        have hs3 : w.heap.size < w3.heap.size := by have := h3.size; simp at this; omega
        have HDk : Hid (Dk w3 (w.heap.size + 1) a2 m2 dq) := Dk.mono hDk (by simp)
        clear h3 hDk HF
        go_wp2_with fail
        refine (HS.out _ _ _ _ _ HDk.out).mono ?_
        rintro e w4 ⟨rfl, rfl⟩
        go_wp2_with fail
        refine (HA.out _ HB3.out).mono ?_
        rintro e w5 ⟨rfl, h5⟩
        have r0 := cell_below h5 q0
        have r1 := cell_below h5 q1
        have r2 := cell_below h5 q2
        have r3 := cell_below h5 q3
        have r4 := cell_below h5 q4
        have r5 := cell_below h5 q5
        have r6 := cell_below h5 q6
        have rf : ∀ i, w5.frozen? ⟨w.heap.size, i, none⟩ = false := fun i => frozen_below h5 hs3 (f1 i)
        have x1' := cell_below h5 x1
        have HD5 : Hid _ := Dk.below HDk.out h5
        have HB5 : Hid _ := HB3.out.trans (h5.mono HB3.out.size)
        clear h5 q0 q1 q2 q3 q4 q5 q6 f1 x0 x1 hc
        go_wp2
        refine bodyPost_ret (v := .tuple #[sv x ⟨#[99, 111, 110, 115, 116]⟩ nils (.slice a2 m2 c2) em 0 (.slice (some ⟨b, o3, none⟩) (N - (k + 1)) (c - (k + 1))), .bool true]) ?_ rfl ⟨⟨a2, m2, c2, rfl, ?_⟩, ?_⟩
        · simp [results, Tryz.results7, go_sem, r0, r1, r2, r3, r4, r5, r6]
        · refine Dk.mono (B := w.heap.size + 1) ?_ (by omega)
          iterate 7 refine Dk.set ?_ (by simp) _
          exact HD5.out
        · iterate 7 refine Below.setCell ?_ (by simp) _
          exact HB5.out
end Go.Proofs.YtokfkmncabmmcaaGreatDoor.Rd
