/-
  A STATEMENT OF ITS OWN WORD: param, input, loss. Conditions: each theorem's own.
-/
import Derived.Test.YtadgnafafdfioaaGreatDoorRi9
namespace Go.Proofs.YtadgnafafdfioaaGreatDoor.Rd
set_option maxRecDepth 100000
open Go.RowKit Nm
set_option linter.unusedVariables false
set_option linter.unusedSimpArgs false

/-- where the words behind the first k stand -/
def Ag (b off c k : Nat) (A : Addr) : Prop := (if c = k then some (⟨b, off, none⟩ : Addr) else some ⟨b, off + k, none⟩) = some A
theorem ag_some (b off c k : Nat) : ∃ o1, (if c = k then some (⟨b, off, none⟩ : Addr) else some ⟨b, off + k, none⟩) = some ⟨b, o1, none⟩ := by
  by_cases q : c = k
  · exact ⟨off, if_pos q⟩
  · exact ⟨off + k, if_neg q⟩
theorem row_ag {w : World} {b off c k : Nat} {ws : List ByteArray} (h : Row w (some ⟨b, off, none⟩) (txts ws)) (hc : ws.length ≤ c) {A : Addr} (hA : Ag b off c k A) : Row w (some A) (txts (ws.drop k)) := by
  unfold Ag at hA
  by_cases q : c = k
  · rw [List.drop_eq_nil_of_le (by omega)]
    exact Row.nil _ _
  · rw [if_neg q] at hA
    cases hA
    rw [← txts_drop]
    exact Row.drop' h k
theorem own_one (w : World) (base : Nat) (e : TypeId) (x : Value) (hb : base ≤ w.heap.size) : (w.alloc (.cells #[x] e)).ownsRow base e 1 (.slice (some ⟨w.heap.size, 0, none⟩) 1 1) 1 [x] :=
  ⟨rfl, .inr ⟨w.heap.size, 1, #[x], rfl, hb, heap_alloc_new w _, Nat.le_refl _, by unfold maxLen; omega, rfl, rfl⟩⟩
theorem So.set {w : World} {B : Nat} {v : Value} {s : Sm} (h : So w B v s) {p : Addr} (hp : p.block < B) (x : Value) : So (w.setCell p x) B v s := by
  obtain ⟨ua, ud, ut, e, h1, h2, h3⟩ := h
  exact ⟨ua, ud, ut, e, own_set h1 hp x, own_set h2 hp x, own_set h3.1 hp x, h3.2⟩
theorem So.form {w : World} {B : Nat} {v : Value} {s : Sm} (h : So w B v s) : ∃ a1 m1 c1 a2 m2 c2 a3 m3 c3, v = sv s.name s.op (.slice a1 m1 c1) (.slice a2 m2 c2) s.k s.n (.slice a3 m3 c3) := by
  obtain ⟨ua, ud, ut, e, h1, h2, h3⟩ := h
  obtain ⟨a1, c1, rfl, _⟩ := h1.form
  obtain ⟨a2, c2, rfl, _⟩ := h2.form
  obtain ⟨a3, c3, rfl, _⟩ := h3.1.form
  exact ⟨_, _, _, _, _, _, _, _, _, e⟩
set_option maxHeartbeats 1000000 in
theorem giv_no1 (b off n c : Nat) (a x : ByteArray) (w : World) (hl : n ≤ 1000000) (hcap : n + 2 ≤ c) (hcm : c ≤ maxLen) (hc0 : w.cell? ⟨b, off, none⟩ = some (.string a)) (hc1 : w.cell? ⟨b, off + 1, none⟩ = some (.string x)) (dv : List Int) (hD : ∀ A, Ag b off c 2 A → ∀ v, Below w.heap.size w v → Calls Tryz.prog 79 #[.slice (some A) n (c - 2)] v fun e w' => ∃ u, e = .returned (.tuple #[u, .bool false]) ∧ Od w' v.heap.size u dv ∧ Below v.heap.size v w') :
    Calls Tryz.prog 61 #[.slice (some ⟨b, off, none⟩) (n + 2) c] w fun e w' => (e = .returned (.tuple #[zv, .bool false])) ∧ Below w.heap.size w w' := by
  obtain ⟨o1, ho1⟩ := ag_some b off c 2
  have HD : Hid _ := hD ⟨b, o1, none⟩ ho1
  clear hD
  have hl0 : b < w.heap.size := row_lt hc0
  go_enter Tryz.func61, Tryz.ntmps61
  go_wp2_with fail
  refine (HD.out _ ((Below.refl _ _).alloc (Nat.le_refl _) _)).mono ?_
  rintro e w1 ⟨u, rfl, hO, h1⟩
  have hx1 : w1.cell? ⟨b, off + 1, none⟩ = some (.string x) := cell_below (((Below.refl _ _).alloc (Nat.le_refl _) _).trans (h1.mono (by simp))) hc1
  have hx0 : w1.cell? ⟨b, off, none⟩ = some (.string a) := cell_below (((Below.refl _ _).alloc (Nat.le_refl _) _).trans (h1.mono (by simp))) hc0
  clear hc0 hc1
  have HO : Hid _ := Lx.own_mono hO (show w.heap.size + 1 ≤ _ by simp)
  obtain ⟨a2, c2, rfl, -⟩ := hO.form
  clear hO
  obtain ⟨q0, q1, q2, q3, q4, q5, q6, f1, hB⟩ := own7 (r := 41) h1
  have HB : Hid _ := hB
  clear hB h1
  clear hx0 hx1 hcap hcm ho1
  go_wp2
  refine bodyPost_ret (v := .tuple #[zv, .bool false]) ?_ rfl ⟨rfl, ?_⟩
  · simp [results, Tryz.results61, go_sem, q0, q1, q2, q3, q4, q5, q6]
  · iterate 7 refine Below.setCell ?_ (by simp) _
    exact HB.out
set_option maxHeartbeats 1000000 in
theorem giv_no2 (b off n c : Nat) (a x : ByteArray) (w : World) (hl : n ≤ 1000000) (hcap : n + 2 ≤ c) (hcm : c ≤ maxLen) (hc0 : w.cell? ⟨b, off, none⟩ = some (.string a)) (hc1 : w.cell? ⟨b, off + 1, none⟩ = some (.string x)) (hn : nmb x = false) (dv : List Int) (hD : ∀ A, Ag b off c 2 A → ∀ v, Below w.heap.size w v → Calls Tryz.prog 79 #[.slice (some A) n (c - 2)] v fun e w' => ∃ u, e = .returned (.tuple #[u, .bool true]) ∧ Od w' v.heap.size u dv ∧ Below v.heap.size v w') :
    Calls Tryz.prog 61 #[.slice (some ⟨b, off, none⟩) (n + 2) c] w fun e w' => (e = .returned (.tuple #[zv, .bool false])) ∧ Below w.heap.size w w' := by
  obtain ⟨o1, ho1⟩ := ag_some b off c 2
  have HD : Hid _ := hD ⟨b, o1, none⟩ ho1
  clear hD
  have hl0 : b < w.heap.size := row_lt hc0
  have hN := Lx.name_any x
  unfold nmb at hn
  rw [hn] at hN
  go_enter Tryz.func61, Tryz.ntmps61
  go_wp2_with fail
  refine (HD.out _ ((Below.refl _ _).alloc (Nat.le_refl _) _)).mono ?_
  rintro e w1 ⟨u, rfl, hO, h1⟩
  have hx1 : w1.cell? ⟨b, off + 1, none⟩ = some (.string x) := cell_below (((Below.refl _ _).alloc (Nat.le_refl _) _).trans (h1.mono (by simp))) hc1
  have hx0 : w1.cell? ⟨b, off, none⟩ = some (.string a) := cell_below (((Below.refl _ _).alloc (Nat.le_refl _) _).trans (h1.mono (by simp))) hc0
  clear hc0 hc1
  have HO : Hid _ := Lx.own_mono hO (show w.heap.size + 1 ≤ _ by simp)
  obtain ⟨a2, c2, rfl, -⟩ := hO.form
  clear hO
  obtain ⟨q0, q1, q2, q3, q4, q5, q6, f1, hB⟩ := own7 (r := 41) h1
  have HB : Hid _ := hB
  clear hB h1
  go_wp2_with fail
  refine (hN _).mono ?_
  rintro e w2 ⟨rfl, rfl⟩
  clear hx0 hx1 hcap hcm ho1
  go_wp2
  refine bodyPost_ret (v := .tuple #[zv, .bool false]) ?_ rfl ⟨rfl, ?_⟩
  · simp [results, Tryz.results61, go_sem, q0, q1, q2, q3, q4, q5, q6]
  · iterate 7 refine Below.setCell ?_ (by simp) _
    exact HB.out
set_option maxHeartbeats 1000000 in
theorem giv_yes (b off n c : Nat) (a x : ByteArray) (w : World) (hl : n ≤ 1000000) (hcap : n + 2 ≤ c) (hcm : c ≤ maxLen) (hc0 : w.cell? ⟨b, off, none⟩ = some (.string a)) (hc1 : w.cell? ⟨b, off + 1, none⟩ = some (.string x)) (hn : nmb x = true) (dv : List Int) (hD : ∀ A, Ag b off c 2 A → ∀ v, Below w.heap.size w v → Calls Tryz.prog 79 #[.slice (some A) n (c - 2)] v fun e w' => ∃ u, e = .returned (.tuple #[u, .bool true]) ∧ Od w' v.heap.size u dv ∧ Below v.heap.size v w') :
    Calls Tryz.prog 61 #[.slice (some ⟨b, off, none⟩) (n + 2) c] w fun e w' => (∃ u, e = .returned (.tuple #[sv x a nils u em 0 nils, .bool true]) ∧ Od w' w.heap.size u dv) ∧ Below w.heap.size w w' := by
  obtain ⟨o1, ho1⟩ := ag_some b off c 2
  have HD : Hid _ := hD ⟨b, o1, none⟩ ho1
  clear hD
  have hl0 : b < w.heap.size := row_lt hc0
  have hN := Lx.name_any x
  unfold nmb at hn
  rw [hn] at hN
  go_enter Tryz.func61, Tryz.ntmps61
  go_wp2_with fail
  refine (HD.out _ ((Below.refl _ _).alloc (Nat.le_refl _) _)).mono ?_
  rintro e w1 ⟨u, rfl, hO, h1⟩
  have hx1 : w1.cell? ⟨b, off + 1, none⟩ = some (.string x) := cell_below (((Below.refl _ _).alloc (Nat.le_refl _) _).trans (h1.mono (by simp))) hc1
  have hx0 : w1.cell? ⟨b, off, none⟩ = some (.string a) := cell_below (((Below.refl _ _).alloc (Nat.le_refl _) _).trans (h1.mono (by simp))) hc0
  clear hc0 hc1
  have HO : Hid _ := Lx.own_mono hO (show w.heap.size + 1 ≤ _ by simp)
  obtain ⟨a2, c2, rfl, -⟩ := hO.form
  clear hO
  obtain ⟨q0, q1, q2, q3, q4, q5, q6, f1, hB⟩ := own7 (r := 41) h1
  have HB : Hid _ := hB
  clear hB h1
  go_wp2_with fail
  refine (hN _).mono ?_
  rintro e w2 ⟨rfl, rfl⟩
  go_wp2_with fail
  go_region
  go_wp2
  refine bodyPost_ret (v := .tuple #[sv x a nils (.slice a2 dv.length c2) em 0 nils, .bool true]) ?_ rfl ⟨⟨_, rfl, ?_⟩, ?_⟩
  · simp [results, Tryz.results61, go_sem, q0, q1, q2, q3, q4, q5, q6]
  · refine Lx.own_mono (base := w.heap.size + 1) ?_ (by omega)
    refine Lx.own_below ?_ (Below.drew (Below.refl _ _))
    iterate 7 refine own_set ?_ (by simp) _
    exact HO.out
  · refine Below.drew ?_
    iterate 7 refine Below.setCell ?_ (by simp) _
    exact HB.out
theorem loss_long (ao : Option Addr) (n c : Nat) (w : World) (hn : ((n : Int) != 2) = true) : Calls Tryz.prog 63 #[.slice ao n c] w fun e w' => e = .returned (.tuple #[zv, .bool false]) ∧ Below w.heap.size w w' := by
  go_enter Tryz.func63, Tryz.ntmps63
  go_wp2
  refine bodyPost_ret (v := .tuple #[zv, .bool false]) ?_ rfl ⟨rfl, ?_⟩
  · simp [results, Tryz.results63, go_sem]
  · exact (Below.refl _ _).alloc (Nat.le_refl _) _
theorem loss_name (b off c : Nat) (a x : ByteArray) (w : World) (hcap : 2 ≤ c) (hcm : c ≤ maxLen) (hc0 : w.cell? ⟨b, off, none⟩ = some (.string a)) (hc1 : w.cell? ⟨b, off + 1, none⟩ = some (.string x)) (hn : nmb x = false) : Calls Tryz.prog 63 #[.slice (some ⟨b, off, none⟩) 2 c] w fun e w' => e = .returned (.tuple #[zv, .bool false]) ∧ Below w.heap.size w w' := by
  have hN := Lx.name_any x
  unfold nmb at hn
  rw [hn] at hN
  have hl0 : b < w.heap.size := row_lt hc0
  go_enter Tryz.func63, Tryz.ntmps63
  go_wp2_with fail
  refine (hN _).mono ?_
  rintro e w2 ⟨rfl, rfl⟩
  go_wp2
  refine bodyPost_ret (v := .tuple #[zv, .bool false]) ?_ rfl ⟨rfl, ?_⟩
  · simp [results, Tryz.results63, go_sem]
  · exact (Below.refl _ _).alloc (Nat.le_refl _) _
set_option maxHeartbeats 1000000 in
theorem loss_yes (b off c : Nat) (a x : ByteArray) (w : World) (hcap : 2 ≤ c) (hcm : c ≤ maxLen) (hc0 : w.cell? ⟨b, off, none⟩ = some (.string a)) (hc1 : w.cell? ⟨b, off + 1, none⟩ = some (.string x)) (hn : nmb x = true) : Calls Tryz.prog 63 #[.slice (some ⟨b, off, none⟩) 2 c] w fun e w' => (∃ u, e = .returned (.tuple #[sv em a u nils em 0 nils, .bool true]) ∧ Ob w' w.heap.size u [x]) ∧ Below w.heap.size w w' := by
  have hN := Lx.name_any x
  unfold nmb at hn
  rw [hn] at hN
  have hl0 : b < w.heap.size := row_lt hc0
  go_enter Tryz.func63, Tryz.ntmps63
  go_wp2_with fail
  refine (hN _).mono ?_
  rintro e w2 ⟨rfl, rfl⟩
  go_wp2_with fail
  go_region
  go_wp2
  refine bodyPost_ret (v := .tuple #[sv em a (.slice (some ⟨w.heap.size + 1, 0, none⟩) 1 1) nils em 0 nils, .bool true]) ?_ rfl ⟨⟨_, rfl, ?_⟩, ?_⟩
  · simp [results, Tryz.results63, go_sem]
  · have m2 := own_one (w.alloc (.cells #[.string ⟨#[]⟩, .string a, .slice (some ⟨w.heap.size + 1, 0, none⟩) 1 1, .slice none 0 0, .string ⟨#[]⟩, .int .i64 0, .slice none 0 0] 41)) w.heap.size 9 (.string x) (by simp)
    rw [show (w.alloc (.cells #[.string ⟨#[]⟩, .string a, .slice (some ⟨w.heap.size + 1, 0, none⟩) 1 1, .slice none 0 0, .string ⟨#[]⟩, .int .i64 0, .slice none 0 0] 41)).heap.size = w.heap.size + 1 by simp] at m2
    exact Lx.own_below m2 (Below.drew (Below.refl _ _))
  · exact (((Below.refl _ _).alloc (Nat.le_refl _) _).alloc (by simp) _).drew
end Go.Proofs.YtadgnafafdfioaaGreatDoor.Rd
