/-
  A LINE's WORDS, WHATEVER THEY ARE: Parse. Conditions: each theorem's own.
-/
import Derived.Test.YtadgnafafdfioaaGreatDoorRm9
namespace Go.Proofs.YtadgnafafdfioaaGreatDoor.Rd
set_option maxRecDepth 100000
open Go.RowKit Nm
set_option linter.unusedVariables false
set_option linter.unusedSimpArgs false

theorem statement_any (ws : List ByteArray) (ao : Option Addr) (c : Nat) (aF aZ : Addr) (w : World) (hE : Er w aF aZ) (hR : Row w ao (txts ws)) (hl : ws.length ≤ 1000000) (hcap : ws.length ≤ c) (hcm : c ≤ maxLen) (hs : ∀ y ∈ ws, y.size ≤ 200000) :
    Calls Tryz.prog 46 #[.slice ao ws.length c] w fun e w' => Fo w' w.heap.size (par ws) e ∧ Below w.heap.size w w' := by
  match ws, hR, hl, hcap, hs with
  | [], _, _, _, _ => exact (st_short ao 0 c w (by omega)).mono fun e w' h => h
  | [a], _, _, _, _ => exact (st_short ao 1 c w (by omega)).mono fun e w' h => h
  | a :: x :: r, hR, hl, hcap, hs =>
    have hlen : (a :: x :: r).length = r.length + 2 := rfl
    have hR' := hR
    obtain ⟨b, off, rfl, hc0, hc1⟩ := cell_two hR
    rw [hlen] at hl hcap ⊢
    have hl' : r.length ≤ 1000000 := by omega
    have hsr : ∀ y ∈ r, y.size ≤ 200000 := fun y hy => hs y (by simp [hy])
    rw [par_two]
    cases hx : isw x lEq with
    | true =>
      rw [if_pos rfl]
      have hxe := isw_eq hx
      have hO : ∀ A, Ag b off c 2 A → ∀ v, Below w.heap.size w v → Calls Tryz.prog 60 #[.string a, .slice (some A) r.length (c - 2)] v fun e w' => Fo w' v.heap.size (opn a r) e ∧ Below v.heap.size v w' :=
        fun A hA v hv => operation_any a r (some A) (c - 2) aF aZ v (hE.below hv) ((row_ag hR' hcap hA).below hv) hl' (by omega) (by omega) hsr
      cases ho : opn a r with
      | none =>
        rw [ho] at hO
        exact (st_eq_no b off r.length c a x w hl' hcap hcm hc0 hc1 hxe hO).mono fun e w' h => h
      | some s =>
        rw [ho] at hO
        exact (st_eq_yes b off r.length c a x w hl' hcap hcm hc0 hc1 s hxe hO).mono fun e w' h => h
    | false =>
      rw [if_neg (by simp)]
      have hG : ∀ v, Below w.heap.size w v → Calls Tryz.prog 61 #[.slice (some ⟨b, off, none⟩) (r.length + 2) c] v fun e w' => Fo w' v.heap.size (giv a x r) e ∧ Below v.heap.size v w' :=
        fun v hv => given_any a x r _ c v (hR'.below hv) hl hcap hcm
      cases h1 : isw a lParam with
      | true =>
        rw [if_pos (by simp)]
        cases ho : giv a x r with
        | none =>
          have hO := hG
          rw [ho] at hO
          exact (st_param_no b off r.length c a x w hl' hcap hcm hc0 hc1 hx (isw_eq h1) hO).mono fun e w' h => h
        | some s =>
          have hO := hG
          rw [ho] at hO
          exact (st_param_yes b off r.length c a x w hl' hcap hcm hc0 hc1 s hx (isw_eq h1) hO).mono fun e w' h => h
      | false =>
        cases h2 : isw a lInput with
        | true =>
          rw [if_pos (by simp)]
          cases ho : giv a x r with
          | none =>
            have hO := hG
            rw [ho] at hO
            exact (st_input_no b off r.length c a x w hl' hcap hcm hc0 hc1 hx (isw_eq h2) hO).mono fun e w' h => h
          | some s =>
            have hO := hG
            rw [ho] at hO
            exact (st_input_yes b off r.length c a x w hl' hcap hcm hc0 hc1 s hx (isw_eq h2) hO).mono fun e w' h => h
        | false =>
          rw [if_neg (by simp)]
          cases h3 : isw a lConst with
          | true =>
            rw [if_pos rfl]
            have hae : isw a lEq = false := by rw [isw_eq h3]; decide
            have hK : ∀ v, Below w.heap.size w v → Calls Tryz.prog 62 #[.slice (some ⟨b, off, none⟩) (r.length + 2) c] v fun e w' => Fo w' v.heap.size (con a x r) e ∧ Below v.heap.size v w' :=
              fun v hv => constant_any a x r _ c aF aZ v (hE.below hv) hae hx (hR'.below hv) hl hcap hcm hsr
            cases ho : con a x r with
            | none =>
              have hO := hK
              rw [ho] at hO
              exact (st_const_no b off r.length c a x w hl' hcap hcm hc0 hc1 hx (isw_eq h3) hO).mono fun e w' h => h
            | some s =>
              have hO := hK
              rw [ho] at hO
              exact (st_const_yes b off r.length c a x w hl' hcap hcm hc0 hc1 s hx (isw_eq h3) hO).mono fun e w' h => h
          | false =>
            rw [if_neg (by simp)]
            cases h4 : isw a lLoss with
            | true =>
              rw [if_pos rfl]
              have hK : ∀ v, Below w.heap.size w v → Calls Tryz.prog 63 #[.slice (some ⟨b, off, none⟩) (r.length + 2) c] v fun e w' => Fo w' v.heap.size (if nmb x = true ∧ r = [] then some ⟨em, a, [x], [], em, 0, []⟩ else none) e ∧ Below v.heap.size v w' :=
                fun v hv => loss_any a x r _ c v (hR'.below hv) hcap hcm
              cases ho : (if nmb x = true ∧ r = [] then some (⟨em, a, [x], [], em, 0, []⟩ : Sm) else none) with
              | none =>
                have hO := hK
                rw [ho] at hO
                exact (st_loss_no b off r.length c a x w hl' hcap hcm hc0 hc1 hx (isw_eq h4) hO).mono fun e w' h => h
              | some s =>
                have hO := hK
                rw [ho] at hO
                exact (st_loss_yes b off r.length c a x w hl' hcap hcm hc0 hc1 s hx (isw_eq h4) hO).mono fun e w' h => h
            | false =>
              rw [if_neg (by simp)]
              exact (st_other b off r.length c a x w hl' hcap hcm hc0 hc1 hx h1 h2 h3 h4).mono fun e w' h => h

/-- what Parse tells of words -/
def Po (w' : World) (B : Nat) (o : Option Sm) (e : Ending) : Prop :=
  match o with
  | none => e = .returned (.tuple #[zv, .int .i64 2])
  | some s => ∃ v, e = .returned (.tuple #[v, .int .i64 0]) ∧ So w' B v s
set_option maxHeartbeats 1000000 in
theorem parse_no (t : Int) (ao : Option Addr) (n c : Nat) (w : World) (hF : ∀ v, Below w.heap.size w v → Calls Tryz.prog 46 #[.slice ao n c] v fun e w' => e = .returned (.tuple #[zv, .bool false]) ∧ Below v.heap.size v w') :
    Calls Tryz.prog 30 #[.agg #[.int .i64 t, .slice ao n c]] w fun e w' => (e = .returned (.tuple #[zv, .int .i64 2])) ∧ Below w.heap.size w w' := by
  have HF : Hid _ := hF
  clear hF
  go_enter Tryz.func30, Tryz.ntmps30
  go_wp2_with fail
  refine (HF.out _ (((Below.refl _ _).alloc (Nat.le_refl _) _).alloc (by simp) _)).mono ?_
  rintro e w1 ⟨rfl, h1⟩
  have hlt : w.heap.size + 1 < w1.heap.size := by have := h1.size; simp at this; omega
  obtain ⟨q0, q1, q2, q3, q4, q5, q6, f1, hB⟩ := own7 (w := w.alloc (.cells #[.int .i64 t, .slice ao n c] 65)) (r := 41) h1
  rw [show (w.alloc (.cells #[.int .i64 t, .slice ao n c] 65)).heap.size = w.heap.size + 1 by simp] at q0 q1 q2 q3 q4 q5 q6 f1
  have HB : Hid (Below w.heap.size w w1) := ((Below.refl _ _).alloc (Nat.le_refl _) _).trans (hB.mono (by simp))
  clear hB h1
  go_wp2
  refine bodyPost_ret (v := .tuple #[zv, .int .i64 2]) ?_ rfl ⟨rfl, ?_⟩
  · simp [results, Tryz.results30, go_sem, hlt, Nat.ne_of_lt hlt, q0, q1, q2, q3, q4, q5, q6]
  · refine Below.alloc ?_ (by have := HB.out.size; simp; omega) _
    iterate 7 refine Below.setCell ?_ (by simp) _
    exact HB.out
set_option maxHeartbeats 1000000 in
theorem parse_yes (t : Int) (ao : Option Addr) (n c : Nat) (w : World) (s : Sm) (hF : ∀ v, Below w.heap.size w v → Calls Tryz.prog 46 #[.slice ao n c] v fun e w' => (∃ u, e = .returned (.tuple #[u, .bool true]) ∧ So w' v.heap.size u s) ∧ Below v.heap.size v w') :
    Calls Tryz.prog 30 #[.agg #[.int .i64 t, .slice ao n c]] w fun e w' => (∃ u, e = .returned (.tuple #[u, .int .i64 0]) ∧ So w' w.heap.size u s) ∧ Below w.heap.size w w' := by
  have HF : Hid _ := hF
  clear hF
  go_enter Tryz.func30, Tryz.ntmps30
  go_wp2_with fail
  refine (HF.out _ (((Below.refl _ _).alloc (Nat.le_refl _) _).alloc (by simp) _)).mono ?_
  rintro e w1 ⟨⟨u, rfl, hU⟩, h1⟩
  have hlt : w.heap.size + 1 < w1.heap.size := by have := h1.size; simp at this; omega
  obtain ⟨q0, q1, q2, q3, q4, q5, q6, f1, hB⟩ := own7 (w := w.alloc (.cells #[.int .i64 t, .slice ao n c] 65)) (r := 41) h1
  rw [show (w.alloc (.cells #[.int .i64 t, .slice ao n c] 65)).heap.size = w.heap.size + 1 by simp] at q0 q1 q2 q3 q4 q5 q6 f1
  have HB : Hid (Below w.heap.size w w1) := ((Below.refl _ _).alloc (Nat.le_refl _) _).trans (hB.mono (by simp))
  obtain ⟨a1, m1, c1, a2, m2, c2, a3, m3, c3, rfl⟩ := hU.form
  have HU : Hid _ := So.mono hU (show w.heap.size + 2 ≤ _ by simp)
  clear hU
  clear hB h1
  go_wp2
  refine bodyPost_ret (v := .tuple #[sv s.name s.op (.slice a1 m1 c1) (.slice a2 m2 c2) s.k s.n (.slice a3 m3 c3), .int .i64 0]) ?_ rfl ⟨⟨_, rfl, ?_⟩, ?_⟩
  · simp [results, Tryz.results30, go_sem, hlt, Nat.ne_of_lt hlt, q0, q1, q2, q3, q4, q5, q6]
  · refine So.mono (B := w.heap.size + 2) ?_ (by omega)
    refine So.below ?_ ((Below.refl _ _).alloc (Nat.le_refl _) _)
    iterate 7 refine So.set ?_ (by simp) _
    exact HU.out
  · refine Below.alloc ?_ (by have := HB.out.size; simp; omega) _
    iterate 7 refine Below.setCell ?_ (by simp) _
    exact HB.out
theorem Parse_any (t : Int) (ws : List ByteArray) (ao : Option Addr) (c : Nat) (aF aZ : Addr) (w : World) (hE : Er w aF aZ) (hR : Row w ao (txts ws)) (hl : ws.length ≤ 1000000) (hcap : ws.length ≤ c) (hcm : c ≤ maxLen) (hs : ∀ y ∈ ws, y.size ≤ 200000) :
    Calls Tryz.prog 30 #[.agg #[.int .i64 t, .slice ao ws.length c]] w fun e w' => Po w' w.heap.size (par ws) e ∧ Below w.heap.size w w' := by
  have hS : ∀ v, Below w.heap.size w v → Calls Tryz.prog 46 #[.slice ao ws.length c] v fun e w' => Fo w' v.heap.size (par ws) e ∧ Below v.heap.size v w' := fun v hv => statement_any ws ao c aF aZ v (hE.below hv) (hR.below hv) hl hcap hcm hs
  cases hp : par ws with
  | none =>
    rw [hp] at hS
    exact (parse_no t ao ws.length c w hS).mono fun e w' h => h
  | some s =>
    rw [hp] at hS
    exact (parse_yes t ao ws.length c w s hS).mono fun e w' h => h
end Go.Proofs.YtadgnafafdfioaaGreatDoor.Rd
