/-
  Small OF THE DOCUMENT: whether a graph is short enough to be gone through. Conditions: each theorem's own.
-/
import Derived.Test.YtadgnafafdfioaaGreatDoorGx
import Derived.Test.YtadgnafafdfioaaGreatDoorHq
namespace Go.Proofs.YtadgnafafdfioaaGreatDoor.Gr
open Go.Proofs.YtadgnafafdfioaaGreatDoor.Rd
set_option maxRecDepth 100000
open Go.RowKit
set_option linter.unusedVariables false
set_option linter.unusedSimpArgs false

/-- a node that is short -/
def sma (n : Nd) : Bool := decide (n.shape.length ≤ 10) && decide (n.data.length ≤ 70) && decide (n.k.size ≤ 30) && decide (n.name.size ≤ 30) && n.data.all fun x => decide (x.size ≤ 30)
def sml (l : List Nd) : Bool := decide (l.length ≤ 40) && l.all sma
theorem sma_nb {n : Nd} (h : sma n = true) : Nb n := by
  unfold sma at h
  simp only [Bool.and_eq_true, decide_eq_true_eq, List.all_eq_true] at h
  obtain ⟨⟨⟨⟨h1, h2⟩, h3⟩, h4⟩, h5⟩ := h
  exact ⟨by omega, by omega, by omega, by omega, fun x hx => by have := h5 x hx; omega⟩
theorem sml_at {l : List Nd} (h : sml l = true) {i : Nat} (hi : i < l.length) : sma (l.getD i zn) = true := by
  unfold sml at h
  simp only [Bool.and_eq_true, List.all_eq_true] at h
  rw [List.getD_eq_getElem?_getD, List.getElem?_eq_getElem hi]
  exact h.2 _ (List.getElem_mem hi)
theorem sml_len {l : List Nd} (h : sml l = true) : l.length ≤ 40 := by
  unfold sml at h
  simp only [Bool.and_eq_true, decide_eq_true_eq] at h
  exact h.1
theorem all_nd {p : Nd → Bool} {l : List Nd} (h : ∀ i, i < l.length → p (l.getD i zn) = true) : l.all p = true := by
  rw [List.all_eq_true]
  intro x hx
  obtain ⟨i, hi, rfl⟩ := List.getElem_of_mem hx
  have := h i hi
  rw [List.getD_eq_getElem?_getD, List.getElem?_eq_getElem hi] at this
  exact this
theorem all_nd_no {p : Nd → Bool} {l : List Nd} {i : Nat} (hi : i < l.length) (h : p (l.getD i zn) = false) : l.all p = false := by
  rw [List.all_eq_false]
  rw [List.getD_eq_getElem?_getD, List.getElem?_eq_getElem hi] at h
  have h' : p l[i] = false := h
  exact ⟨l[i], List.getElem_mem hi, by rw [h']; decide⟩
/-- the cells of a node at a place -/
theorem Nl.at {w : World} {ao : Option Addr} {l : List Nd} (h : Nl w ao l) {i : Nat} (hi : i < l.length) :
    ∃ b off sa sc da dc, ao = some ⟨b, off, none⟩ ∧ Sp.Sl w sa (l.getD i zn).shape ∧ Row w da (txts (l.getD i zn).data) ∧
      w.cell? ⟨b, off + i * 8, none⟩ = some (.string (l.getD i zn).op) ∧ w.cell? ⟨b, off + i * 8 + 1, none⟩ = some (.int .i64 (l.getD i zn).a) ∧ w.cell? ⟨b, off + i * 8 + 2, none⟩ = some (.int .i64 (l.getD i zn).b) ∧ w.cell? ⟨b, off + i * 8 + 3, none⟩ = some (.string (l.getD i zn).name) ∧
      w.cell? ⟨b, off + i * 8 + 4, none⟩ = some (.slice sa (l.getD i zn).shape.length sc) ∧ w.cell? ⟨b, off + i * 8 + 5, none⟩ = some (.string (l.getD i zn).k) ∧ w.cell? ⟨b, off + i * 8 + 6, none⟩ = some (.int .i64 (l.getD i zn).n) ∧ w.cell? ⟨b, off + i * 8 + 7, none⟩ = some (.slice da (l.getD i zn).data.length dc) := by
  obtain ⟨b, off, cs, e, ⟨sa, sc, da, dc, rfl, h1, h2⟩, hc⟩ := h i hi
  exact ⟨b, off, sa, sc, da, dc, e, h1, h2, hc 0 (by omega), hc 1 (by omega), hc 2 (by omega), hc 3 (by omega), hc 4 (by omega), hc 5 (by omega), hc 6 (by omega), hc 7 (by omega)⟩

set_option maxHeartbeats 8000000 in
theorem Small_any (l : List Nd) (ao : Option Addr) (c : Nat) (loss : Int) (w : World) (hl : Nl w ao l) :
    Calls Tryz.prog 6 #[.agg #[.slice ao l.length c, .int .i64 loss]] w fun e w' => e = .returned (.bool (sml l)) ∧ Below w.heap.size w w' := by
  have HB : Hid (∀ o, Below w.heap.size w (w.alloc o)) := fun o => bl_alloc (Below.refl _ _) o
  by_cases h40 : 40 < l.length
  · have e : sml l = false := by unfold sml; rw [decide_eq_false (by omega)]; rfl
    rw [e]
    clear e hl
    generalize l.length = ll at h40 ⊢
    go_enter Tryz.func6, Tryz.ntmps6
    go_wp2
    go_ret
    exact ⟨rfl, HB.out _⟩
  have e : sml l = l.all sma := by unfold sml; rw [decide_eq_true (by omega)]; rfl
  rw [e]
  clear e
  have HM : Hid ((∀ i, i < l.length → sma (l.getD i zn) = true) → l.all sma = true) := all_nd
  have HNo : Hid (∀ i, i < l.length → sma (l.getD i zn) = false → l.all sma = false) := fun i hi h => all_nd_no hi h
  have HL : Hid (∀ v, Below w.heap.size w v → ∀ i, i < l.length → ∃ b off sa sc da dc, ao = some ⟨b, off, none⟩ ∧ Sp.Sl v sa (l.getD i zn).shape ∧ Row v da (txts (l.getD i zn).data) ∧
      v.cell? ⟨b, off + i * 8, none⟩ = some (.string (l.getD i zn).op) ∧ v.cell? ⟨b, off + i * 8 + 1, none⟩ = some (.int .i64 (l.getD i zn).a) ∧ v.cell? ⟨b, off + i * 8 + 2, none⟩ = some (.int .i64 (l.getD i zn).b) ∧ v.cell? ⟨b, off + i * 8 + 3, none⟩ = some (.string (l.getD i zn).name) ∧
      v.cell? ⟨b, off + i * 8 + 4, none⟩ = some (.slice sa (l.getD i zn).shape.length sc) ∧ v.cell? ⟨b, off + i * 8 + 5, none⟩ = some (.string (l.getD i zn).k) ∧ v.cell? ⟨b, off + i * 8 + 6, none⟩ = some (.int .i64 (l.getD i zn).n) ∧ v.cell? ⟨b, off + i * 8 + 7, none⟩ = some (.slice da (l.getD i zn).data.length dc)) := fun v hv i hi => (hl.below hv).at hi
  generalize l.all sma = al at HM HNo ⊢
  obtain ⟨N, hN⟩ : ∃ N, l.length = N := ⟨_, rfl⟩
  rw [hN] at HM HNo HL h40 ⊢
  clear hN hl
  go_enter Tryz.func6, Tryz.ntmps6
  go_wp2_with fail
  go_loopw [14] (fun i wr => ∃ k : Nat, k ≤ N ∧ i = .int .i64 (k : Int) ∧ (∀ j, j < k → sma (l.getD j zn) = true) ∧ Below w.heap.size w wr) (fun i _ => N - (intOf i).toNat)
  case atStart => exact ⟨0, by omega, rfl, fun j hj => by omega, HB.out _⟩
  case round =>
    obtain ⟨k, hk, rfl, hj, hb⟩ := hrel
    have HJ : Hid _ := And.intro hj hb
    clear hj
    by_cases h : k < N
    · obtain ⟨b, off, sa, sc, da, dc, rfl, hS, hD, c0, c1, c2, c3, c4, c5, c6, c7⟩ := HL.out wr hb k h
      clear hb hS
      obtain ⟨nd, hnd⟩ : ∃ z, l.getD k zn = z := ⟨_, rfl⟩
      rw [hnd] at c0 c1 c2 c3 c4 c5 c6 c7 hD
      have HX : Hid _ := hnd
      clear hnd
      obtain ⟨op, A, B, name, zs, K, n, data⟩ := nd
      simp only at c0 c1 c2 c3 c4 c5 c6 c7 hD
      have HF : Hid (sma ⟨op, A, B, name, zs, K, n, data⟩ = false → al = false) := fun hf => HNo.out k h (by rw [HX.out]; exact hf)
      have HBr : Hid (∀ o, Below w.heap.size w (wr.alloc o)) := fun o => HJ.out.2.alloc HJ.out.2.size o
      have HD : Hid (∀ v, Below wr.heap.size wr v → ∀ i, i < data.length → ∃ b off, da = some ⟨b, off, none⟩ ∧ v.cell? ⟨b, off + i, none⟩ = some (.string (data.getD i em))) := fun v hv i hi => row_s (Row.below hD hv) hi
      have HS1 : Hid (10 < zs.length → sma ⟨op, A, B, name, zs, K, n, data⟩ = false) := fun h => by unfold sma; simp only; rw [decide_eq_false (p := zs.length ≤ 10) (by omega)]; simp
      have HS2 : Hid (70 < data.length → sma ⟨op, A, B, name, zs, K, n, data⟩ = false) := fun h => by unfold sma; simp only; rw [decide_eq_false (p := data.length ≤ 70) (by omega)]; simp
      have HS3 : Hid (30 < K.size → sma ⟨op, A, B, name, zs, K, n, data⟩ = false) := fun h => by unfold sma; simp only; rw [decide_eq_false (p := K.size ≤ 30) (by omega)]; simp
      have HS4 : Hid (30 < name.size → sma ⟨op, A, B, name, zs, K, n, data⟩ = false) := fun h => by unfold sma; simp only; rw [decide_eq_false (p := name.size ≤ 30) (by omega)]; simp
      have HS5 : Hid (∀ i, i < data.length → 30 < (data.getD i em).size → sma ⟨op, A, B, name, zs, K, n, data⟩ = false) := fun i hi h => by
        unfold sma; simp only
        rw [all_n (p := fun x => decide (x.size ≤ 30)) hi (by rw [decide_eq_false (by omega)])]; simp
      have HS6 : Hid (zs.length ≤ 10 → data.length ≤ 70 → K.size ≤ 30 → name.size ≤ 30 → (∀ i, i < data.length → (data.getD i em).size ≤ 30) → sma ⟨op, A, B, name, zs, K, n, data⟩ = true) := fun h1 h2 h3 h4 h5 => by
        unfold sma; simp only
        rw [all_y (p := fun x => decide (x.size ≤ 30)) (fun i hi => decide_eq_true (h5 i hi))]; simp [h1, h2, h3, h4]
      clear hD
      obtain ⟨sm, hsm⟩ : ∃ b, sma ⟨op, A, B, name, zs, K, n, data⟩ = b := ⟨_, rfl⟩
      have HSM : Hid _ := hsm
      rw [hsm] at HF HS1 HS2 HS3 HS4 HS5 HS6
      clear hsm
      obtain ⟨zl, hzl⟩ : ∃ m, zs.length = m := ⟨_, rfl⟩
      obtain ⟨dl, hdl⟩ : ∃ m, data.length = m := ⟨_, rfl⟩
      rw [hzl] at HS1 HS6 c4
      rw [hdl] at HS2 HS5 HS6 HD c7
      clear hzl hdl
      by_cases g1 : 10 < zl
      · go_wp2
        go_ret
        exact ⟨by rw [HF.out (HS1.out g1)]; rfl, HBr.out _⟩
      by_cases g2 : 70 < dl
      · go_wp2
        go_ret
        exact ⟨by rw [HF.out (HS2.out g2)]; rfl, HBr.out _⟩
      by_cases g3 : 30 < K.size
      · go_wp2
        go_ret
        exact ⟨by rw [HF.out (HS3.out g3)]; rfl, HBr.out _⟩
      by_cases g4 : 30 < name.size
      · go_wp2
        go_ret
        exact ⟨by rw [HF.out (HS4.out g4)]; rfl, HBr.out _⟩
      have HBa : Hid (∀ o, Below wr.heap.size wr (wr.alloc o)) := fun o => bl_alloc (Below.refl _ _) o
      go_wp2_with fail
      go_loop [43] (fun i => ∃ m : Nat, m ≤ dl ∧ i = .int .i64 (m : Int) ∧ (∀ j, j < m → (data.getD j em).size ≤ 30)) (fun i => dl - (intOf i).toNat)
      case atStart => exact ⟨0, by omega, rfl, fun j hj => by omega⟩
      case round =>
        obtain ⟨m, hm, rfl, hj⟩ := hrel
        have HJ2 : Hid _ := hj
        clear hj
        by_cases hmm : m < dl
        · obtain ⟨b', off', rfl, hcx⟩ := HD.out _ (HBa.out (.cells #[.string op, .int .i64 A, .int .i64 B, .string name, .slice sa zl sc, .string K, .int .i64 n, .slice da dl dc] 28)) m hmm
          obtain ⟨x, hx⟩ : ∃ z, data.getD m em = z := ⟨_, rfl⟩
          rw [hx] at hcx
          have HXx : Hid _ := hx
          clear hx
          by_cases g5 : 30 < x.size
          · go_wp2
            go_ret
            exact ⟨by rw [HF.out (HS5.out m hmm (by rw [HXx.out]; exact g5))]; rfl, HBr.out _⟩
          · go_wp2
            go_round
            case rel =>
              refine ⟨m + 1, by omega, by go_num, fun j hj => ?_⟩
              by_cases e : j = m
              · rw [e, HXx.out]; omega
              · exact HJ2.out j (by omega)
            case measure => simp [intOf]; omega
        · have HT : Hid (sm = true) := HS6.out (by omega) (by omega) (by omega) (by omega) (fun i hi => HJ2.out i (by omega))
          go_wp2
          go_roundw
          case rel =>
            refine ⟨k + 1, by omega, by go_num, fun j hj => ?_, HBr.out _⟩
            by_cases e : j = k
            · rw [e, HX.out, HSM.out]; exact HT.out
            · exact HJ.out.1 j (by omega)
          case measure => simp [intOf]; omega
    · have HT : Hid (al = true) := HM.out (fun i hi => HJ.out.1 i (by omega))
      clear hb
      go_wp2
      go_ret
      exact ⟨by rw [HT.out]; rfl, HJ.out.2⟩
end Go.Proofs.YtadgnafafdfioaaGreatDoor.Gr
