/-
  A LINE's WORDS, WHATEVER THEY ARE: statement and Parse. Conditions: each theorem's own.
-/
import Derived.Test.YtadgnafafdfioaaGreatDoorRk9
namespace Go.Proofs.YtadgnafafdfioaaGreatDoor.Rd
set_option maxRecDepth 100000
open Go.RowKit Nm
set_option linter.unusedVariables false
set_option linter.unusedSimpArgs false

theorem cell_two {w : World} {ao : Option Addr} {a x : ByteArray} {r : List ByteArray} (h : Row w ao (txts (a :: x :: r))) : ∃ b off, ao = some ⟨b, off, none⟩ ∧ w.cell? ⟨b, off, none⟩ = some (.string a) ∧ w.cell? ⟨b, off + 1, none⟩ = some (.string x) := by
  obtain ⟨b, off, rfl, h0⟩ := h 0 (.string a) rfl
  obtain ⟨b', off', e, h1⟩ := h 1 (.string x) rfl
  cases e
  exact ⟨b, off, rfl, by rw [Nat.add_zero] at h0; exact h0, h1⟩

theorem given_any (a x : ByteArray) (r : List ByteArray) (ao : Option Addr) (c : Nat) (w : World) (hR : Row w ao (txts (a :: x :: r))) (hl : r.length + 2 ≤ 1000000) (hcap : r.length + 2 ≤ c) (hcm : c ≤ maxLen) :
    Calls Tryz.prog 61 #[.slice ao (r.length + 2) c] w fun e w' => Fo w' w.heap.size (giv a x r) e ∧ Below w.heap.size w w' := by
  obtain ⟨b, off, rfl, hc0, hc1⟩ := cell_two hR
  have hD : ∀ A, Ag b off c 2 A → ∀ v, Below w.heap.size w v → Calls Tryz.prog 79 #[.slice (some A) r.length (c - 2)] v fun e w' => ∃ u, e = .returned (.tuple #[u, .bool (dmo r)]) ∧ Od w' v.heap.size u (dmv r) ∧ Below v.heap.size v w' :=
    fun A hA v hv => dims_any (some A) r (c - 2) v ((row_ag hR hcap hA).below hv)
  unfold giv
  cases hd : dms r with
  | none =>
    obtain ⟨e1, e2⟩ := dm_no hd
    rw [e1] at hD
    exact (giv_no1 b off r.length c a x w (by omega) hcap hcm hc0 hc1 _ hD).mono fun e w' h => h
  | some d =>
    obtain ⟨e1, e2⟩ := dm_yes hd
    rw [e1, e2] at hD
    cases hn : nmb x with
    | false => exact (giv_no2 b off r.length c a x w (by omega) hcap hcm hc0 hc1 hn _ hD).mono fun e w' h => h
    | true =>
      refine (giv_yes b off r.length c a x w (by omega) hcap hcm hc0 hc1 hn _ hD).mono ?_
      rintro e w' ⟨⟨u, rfl, hO⟩, hB⟩
      exact ⟨⟨_, rfl, _, _, _, rfl, Ob.nil _ _, hO, Ob.nil _ _, .inr rfl⟩, hB⟩
theorem loss_any (a x : ByteArray) (r : List ByteArray) (ao : Option Addr) (c : Nat) (w : World) (hR : Row w ao (txts (a :: x :: r))) (hcap : r.length + 2 ≤ c) (hcm : c ≤ maxLen) :
    Calls Tryz.prog 63 #[.slice ao (r.length + 2) c] w fun e w' => Fo w' w.heap.size (if nmb x = true ∧ r = [] then some ⟨em, a, [x], [], em, 0, []⟩ else none) e ∧ Below w.heap.size w w' := by
  obtain ⟨b, off, rfl, hc0, hc1⟩ := cell_two hR
  cases r with
  | cons y l =>
    rw [if_neg (by simp)]
    exact (loss_long (some ⟨b, off, none⟩) ((y :: l).length + 2) c w (by simp; omega)).mono fun e w' h => h
  | nil =>
    cases hn : nmb x with
    | false =>
      rw [if_neg (by simp)]
      exact (loss_name b off c a x w hcap hcm hc0 hc1 hn).mono fun e w' h => h
    | true =>
      rw [if_pos ⟨rfl, rfl⟩]
      refine (loss_yes b off c a x w hcap hcm hc0 hc1 hn).mono ?_
      rintro e w' ⟨⟨u, rfl, hO⟩, hB⟩
      exact ⟨⟨_, rfl, _, _, _, rfl, hO, Od.nil _ _, Ob.nil _ _, .inr rfl⟩, hB⟩

theorem cut_cases (r : List ByteArray) : (cutEq r = none ∧ ∀ j, j < r.length → isw (r.getD j em) lEq = false) ∨ ∃ k, k < r.length ∧ isw (r.getD k em) lEq = true ∧ (∀ j, j < k → isw (r.getD j em) lEq = false) ∧ cutEq r = some (r.take k, r.drop (k + 1)) := by
  induction r with
  | nil => exact Or.inl ⟨rfl, fun j hj => by simp at hj⟩
  | cons y l ih =>
    cases hy : isw y lEq with
    | true => exact Or.inr ⟨0, by simp, by simpa using hy, fun j hj => by omega, cut_some (by simp) (fun j hj => by omega) (by simpa using hy)⟩
    | false =>
      have hz : ∀ j, (∀ i, i < j → isw (l.getD i em) lEq = false) → ∀ i, i < j + 1 → isw ((y :: l).getD i em) lEq = false := by
        intro j h i hi
        cases i with
        | zero => simpa using hy
        | succ i => simpa using h i (by omega)
      rcases ih with ⟨_, h⟩ | ⟨k, hk, he, hf, _⟩
      · have := hz l.length h
        exact Or.inl ⟨cut_none this, this⟩
      · exact Or.inr ⟨k + 1, by simpa using hk, by simpa using he, hz k hf, cut_some (by simpa using hk) (hz k hf) (by simpa using he)⟩
theorem isw_v (x : ByteArray) (l : List UInt8) : ((⟨l.toArray⟩ : ByteArray).toList == x.toList) = isw x l := by
  rw [← isw_list, toList_data ⟨l.toArray⟩]
  exact Bool.beq_comm
theorem size_as (ao : Option Addr) (zs : List Int) (c m : Nat) (w : World) (hl : zs.length ≤ 1000) (hS : Sp.Sl w ao zs) (hm : Sp.szI zs = m) :
    Calls Tryz.prog 39 #[.slice ao zs.length c] w fun e w' => e = .returned (.int .i64 (m : Int)) ∧ w' = w := by
  subst hm
  exact Sp.size_any ao zs c w hl hS
theorem constant_any (a x : ByteArray) (r : List ByteArray) (ao : Option Addr) (c : Nat) (aF aZ : Addr) (w : World) (hE : Er w aF aZ) (ha : isw a lEq = false) (hx : isw x lEq = false) (hR : Row w ao (txts (a :: x :: r))) (hl : r.length + 2 ≤ 1000000) (hcap : r.length + 2 ≤ c) (hcm : c ≤ maxLen) (hs : ∀ y ∈ r, y.size ≤ 200000) :
    Calls Tryz.prog 62 #[.slice ao (r.length + 2) c] w fun e w' => Fo w' w.heap.size (con a x r) e ∧ Below w.heap.size w w' := by
  obtain ⟨b, off, rfl, hc0, hc1⟩ := cell_two hR
  have hlen : (a :: x :: r).length = r.length + 2 := rfl
  have hix := fun (v : World) (hv : Below w.heap.size w v) => index_any (some ⟨b, off, none⟩) (a :: x :: r) c ⟨lEq.toArray⟩ v hl (hR.below hv)
  rw [hlen] at hix
  have h01 : ∀ k, k < 2 → isw ((a :: x :: r).getD k em) lEq = false := by
    intro k hk
    match k, hk with
    | 0, _ => exact ha
    | 1, _ => exact hx
  have hge : ∀ k, isw ((a :: x :: r).getD (k + 2) em) lEq = isw (r.getD k em) lEq := fun k => rfl
  rcases cut_cases r with ⟨hcn, hno⟩ | ⟨k, hk, hke, hkf, hcs⟩
  · have e0 : con a x r = none := by unfold con; rw [hcn]
    rw [e0]
    refine (con_none b off (r.length + 2) c a x w hl (by omega) hcap hcm hc0 hc1 ?_).mono fun e w' h => h
    intro v hv
    refine (hix v hv).mono ?_
    rintro e w' ⟨i, rfl, hI, rfl⟩
    rcases hI with ⟨rfl, _⟩ | ⟨k, rfl, hk, he, _⟩
    · exact ⟨rfl, rfl⟩
    · exfalso
      rw [isw_v] at he
      by_cases h2 : k < 2
      · rw [h01 k h2] at he; cases he
      · obtain ⟨k, rfl⟩ : ∃ j, k = j + 2 := ⟨k - 2, by omega⟩
        rw [hge, hno k (by omega)] at he; cases he
  · have hI : ∀ v, Below w.heap.size w v → Calls Tryz.prog 80 #[.slice (some ⟨b, off, none⟩) (r.length + 2) c, .string ⟨#[61]⟩] v fun e w' => e = .returned (.int .i64 ((k + 2 : Nat) : Int)) ∧ w' = v := by
      intro v hv
      refine (hix v hv).mono ?_
      rintro e w' ⟨i, rfl, hI, rfl⟩
      refine ⟨?_, rfl⟩
      rcases hI with ⟨_, hn⟩ | ⟨q, rfl, hq, he, hf⟩
      · have := hn (k + 2) (by omega)
        rw [isw_v, hge, hke] at this; cases this
      · rw [isw_v] at he
        by_cases h2 : q < 2
        · rw [h01 q h2] at he; cases he
        · obtain ⟨q, rfl⟩ : ∃ j, q = j + 2 := ⟨q - 2, by omega⟩
          rw [hge] at he
          rcases Nat.lt_trichotomy q k with h | h | h
          · rw [hkf q h] at he; cases he
          · rw [h]
          · have := hf (k + 2) (by omega)
            rw [isw_v, hge, hke] at this; cases this
    have e1 : con a x r = if nmb x then (match dms (r.take k) with
        | some d => if (r.drop (k + 1)).length = Sp.szI d ∧ (r.drop (k + 1)).all ra = true then some ⟨x, a, [], d, em, 0, r.drop (k + 1)⟩ else none
        | none => none) else none := by
      unfold con; rw [hcs]
      simp only []
      cases nmb x with
      | false => rfl
      | true => cases dms (r.take k) <;> rfl
    have hlt : (r.take k).length = k := by rw [List.length_take]; omega
    have hld : (r.drop (k + 1)).length = r.length + 2 - (k + 2 + 1) := by rw [List.length_drop]; omega
    have hlk : r.length + 2 - (k + 2 + 1) = r.length - (k + 1) := by omega
    rw [e1]
    cases hn : nmb x with
    | false =>
      exact (con_name b off (r.length + 2) c a x w hl (by omega) hcap hcm hc0 hc1 (k + 2) (by omega) (by omega) hI hn).mono fun e w' h => h
    | true =>
      have hD : ∀ A, Ag b off c 2 A → ∀ v, Below w.heap.size w v → Calls Tryz.prog 79 #[.slice (some A) (k + 2 - 2) (c - 2)] v fun e w' => ∃ u, e = .returned (.tuple #[u, .bool (dmo (r.take k))]) ∧ Od w' v.heap.size u (dmv (r.take k)) ∧ Below v.heap.size v w' := by
        intro A hA v hv
        have := dims_any (some A) (r.take k) (c - 2) v (by rw [← txts_take]; exact Row.take' ((row_ag hR hcap hA).below hv) k)
        rw [hlt] at this
        rw [show k + 2 - 2 = k by omega]
        exact this
      cases hd : dms (r.take k) with
      | none =>
        obtain ⟨d1, d2⟩ := dm_no hd
        rw [d1] at hD
        exact (con_dims b off (r.length + 2) c a x w hl (by omega) hcap hcm hc0 hc1 (k + 2) (by omega) (by omega) hI hn _ hD).mono fun e w' h => h
      | some dv =>
        obtain ⟨d1, d2⟩ := dm_yes hd
        rw [d1, d2] at hD
        have hrg := (dms_some hd).2
        obtain ⟨m, hm⟩ : ∃ m, Sp.szI dv = m := ⟨_, rfl⟩
        have hm64 : m ≤ 64 := by rw [← hm]; exact Sp.szI_le dv
        have hS : ∀ a2 c2 v, Sp.Sl v a2 dv → Calls Tryz.prog 39 #[.slice a2 dv.length c2] v fun e w' => e = .returned (.int .i64 (m : Int)) ∧ w' = v := fun a2 c2 v h => size_as a2 dv c2 m v (by have := hrg.1; omega) h hm
        have hrow : ∀ A, Ag b off c (k + 2 + 1) A → ∀ v, Below w.heap.size w v → Row v (some A) (txts (r.drop (k + 1))) := fun A hA v hv => (row_ag hR hcap hA).below hv
        have hA : ∀ A, Ag b off c (k + 2 + 1) A → ∀ v, Below w.heap.size w v → Calls Tryz.prog 77 #[.slice (some A) (r.length + 2 - (k + 2 + 1)) (c - (k + 2 + 1)), .func (.func 50) #[] #[]] v fun e w' => e = .returned (.bool ((r.drop (k + 1)).all ra)) ∧ Below v.heap.size v w' := by
          intro A hA v hv
          have := allRat_any (some A) (r.drop (k + 1)) (c - (k + 2 + 1)) aF aZ v (hE.below hv) (by omega) (hrow A hA v hv) (fun i hi => hs _ (by
            have : (r.drop (k + 1)).getD i em ∈ r.drop (k + 1) := by
              rw [List.getD_eq_getElem?_getD, List.getElem?_eq_getElem hi]; exact List.getElem_mem hi
            exact List.mem_of_mem_drop this))
          rw [hld] at this
          exact this
        have hC : ∀ A, Ag b off c (k + 2 + 1) A → ∀ v, Below w.heap.size w v → Calls Tryz.prog 66 #[.slice (some A) (r.length + 2 - (k + 2 + 1)) (c - (k + 2 + 1))] v fun e w' => ∃ u, e = .returned u ∧ w'.ownsRow v.heap.size 9 1 u (r.drop (k + 1)).length (txts (r.drop (k + 1))) ∧ Below v.heap.size v w' := by
          intro A hA v hv
          have := clone_any (some A) (r.drop (k + 1)) (c - (k + 2 + 1)) v (by omega) (hrow A hA v hv)
          rw [← hld]
          exact this
        show Calls _ _ _ _ fun e w' => Fo w' w.heap.size (if (r.drop (k + 1)).length = Sp.szI dv ∧ (r.drop (k + 1)).all ra = true then _ else none) e ∧ _
        rw [hm, hld]
        by_cases hq : r.length + 2 - (k + 2 + 1) = m
        · have hq' : (((r.length + 2 - (k + 2 + 1) : Nat) : Int) != (m : Int)) = false := by simp [hq]
          cases hall : (r.drop (k + 1)).all ra with
          | false =>
            rw [if_neg (by simp)]
            rw [hall] at hA
            exact (con_rat b off (r.length + 2) c a x w hl (by omega) hcap hcm hc0 hc1 (k + 2) (by omega) (by omega) hI hn dv hD m hm64 hS hq' hA).mono fun e w' h => h
          | true =>
            rw [if_pos ⟨hq, rfl⟩]
            rw [hall] at hA
            refine (con_yes b off (r.length + 2) c a x w hl (by omega) hcap hcm hc0 hc1 (k + 2) (by omega) (by omega) hI hn dv hD m hm64 hS hq' hA (r.drop (k + 1)) hld hC).mono ?_
            rintro e w' ⟨⟨u, t, rfl, hO, hT⟩, hB⟩
            exact ⟨⟨_, rfl, _, _, _, rfl, Ob.nil _ _, hO, hT, .inl rfl⟩, hB⟩
        · have hq' : (((r.length + 2 - (k + 2 + 1) : Nat) : Int) != (m : Int)) = true := by
            apply bne_iff_ne.2
            omega
          rw [if_neg (fun h => hq h.1)]
          exact (con_len b off (r.length + 2) c a x w hl (by omega) hcap hcm hc0 hc1 (k + 2) (by omega) (by omega) hI hn dv hD m hm64 hS hq').mono fun e w' h => h
end Go.Proofs.YtadgnafafdfioaaGreatDoor.Rd
