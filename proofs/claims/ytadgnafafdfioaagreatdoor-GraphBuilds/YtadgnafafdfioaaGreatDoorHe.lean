/-
  WHAT IS BUILT OF A TEXT's STATEMENTS: its nodes are bounded, its errors have numbers; statements in two slices. Conditions: each theorem's own.
-/
import Derived.Test.YtadgnafafdfioaaGreatDoorHa
import Derived.Test.YtadgnafafdfioaaGreatDoorHc
import Derived.Test.YtadgnafafdfioaaGreatDoorHd
import Derived.Test.YtadgnafafdfioaaGreatDoorGaw
namespace Go.Proofs.YtadgnafafdfioaaGreatDoor.Gr
open Go.Proofs.YtadgnafafdfioaaGreatDoor.Rd
set_option maxRecDepth 100000
open Go.RowKit
set_option linter.unusedVariables false
set_option linter.unusedSimpArgs false

theorem So.grown2 {w w' : World} {B b2 e2 s2 n2 : Nat} {v v2 : Value} {s : Rd.Sm} {x2 : List Value} (h : So w B v s) (h2 : w.ownsRow b2 e2 s2 v2 n2 x2) (h9 : 9 ≠ e2) (h3 : 3 ≠ e2) (hg : w.grownBy w' v2.ownBlock) : So w' B v s := by
  obtain ⟨ua, ud, ut, e, p1, p2, p3⟩ := h
  exact ⟨ua, ud, ut, e, Lx.own_grown p1 h2 h9 hg, Lx.own_grown p2 h2 h3 hg, Lx.own_grown p3.1 h2 h9 hg, p3.2⟩
theorem Lo.grown2 {w w' : World} {B b2 n2 : Nat} {v v2 : Value} {us : List Value} {ss : List Rd.Sm} {x2 : List Value} (h : Lo w B v us ss) (hp : Rd.Pw w B us ss) (h2 : w.ownsRow b2 42 7 v2 n2 x2) (hg : w.grownBy w' v2.ownBlock) : Lo w' B v us ss ∧ Rd.Pw w' B us ss :=
  ⟨⟨Lx.own_grown h.own h2 (by decide) hg, h.all.mono fun u s h => So.grown2 h h2 (by decide) (by decide) hg⟩, hp.mono fun B u s h => So.grown2 h h2 (by decide) (by decide) hg⟩
theorem Pw.below {w w' : World} {B : Nat} {us : List Value} {ss : List Rd.Sm} (h : Rd.Pw w B us ss) (hb : Below w.heap.size w w') : Rd.Pw w' B us ss := h.mono fun B u s h => h.below hb
theorem flat_take {us : List Value} {k : Nat} {u : Value} (hu : us[k]? = some u) : flat (us.take (k + 1)) = flat (us.take k) ++ cls u := by
  rw [List.take_add_one, hu, flat_app]
  simp [flat]
/-- a statement out of the slice -/
theorem Lo.get2 {w : World} {B : Nat} {v : Value} {us : List Value} {ss : List Rd.Sm} (h : Lo w B v us ss) (hp : Rd.Pw w B us ss) {i : Nat} {s : Rd.Sm} (hi : ss[i]? = some s) :
    ∃ g cap aa ca sa cz da ct, v = .slice (some ⟨g, 0, none⟩) ss.length cap ∧ us[i]? = some (sv s.name s.op (.slice aa s.args.length ca) (.slice sa s.dims.length cz) s.k s.n (.slice da s.data.length ct)) ∧ w.ownsRow B 9 1 (.slice da s.data.length ct) s.data.length (txts s.data) ∧
      w.cell? ⟨g, i * 7, none⟩ = some (.string s.name) ∧ w.cell? ⟨g, i * 7 + 1, none⟩ = some (.string s.op) ∧ w.cell? ⟨g, i * 7 + 2, none⟩ = some (.slice aa s.args.length ca) ∧ w.cell? ⟨g, i * 7 + 3, none⟩ = some (.slice sa s.dims.length cz) ∧
      w.cell? ⟨g, i * 7 + 4, none⟩ = some (.string s.k) ∧ w.cell? ⟨g, i * 7 + 5, none⟩ = some (.int .i64 (s.n : Int)) ∧ w.cell? ⟨g, i * 7 + 6, none⟩ = some (.slice da s.data.length ct) := by
  obtain ⟨u, hu, _, hf⟩ := flat_at h.all hi
  obtain ⟨ua, ud, ut, rfl, p1, p2, p3⟩ := hp.1 i u s hu hi
  obtain ⟨aa, ca, rfl, _⟩ := p1.form
  obtain ⟨sa, cz, rfl, _⟩ := p2.form
  obtain ⟨da, ct, rfl, _⟩ := p3.1.form
  have hil : i < ss.length := (List.getElem?_eq_some_iff.1 hi).1
  rcases h.own.2 with ⟨h1, h2⟩ | ⟨g, c, cur, rfl, h2, h3, h4, h5, _⟩
  · omega
  · have hc : ∀ j x, (cls (sv s.name s.op (.slice aa s.args.length ca) (.slice sa s.dims.length cz) s.k s.n (.slice da s.data.length ct)))[j]? = some x → j < 7 → w.cell? ⟨g, i * 7 + j, none⟩ = some x := fun j x hx hj => by
      rw [h.own.cellAt (i * 7 + j) (by omega)]
      exact (hf j hj).trans hx
    exact ⟨g, c, aa, ca, sa, cz, da, ct, rfl, hu, p3.1, hc 0 _ rfl (by omega), hc 1 _ rfl (by omega), hc 2 _ rfl (by omega), hc 3 _ rfl (by omega), hc 4 _ rfl (by omega), hc 5 _ rfl (by omega), hc 6 _ rfl (by omega)⟩
theorem bld_err : ∀ {L : List Rd.Sm} {σ : St} {i j c : Nat}, bld σ i L = .error (j, c) → c ≠ 0
  | [], σ, i, j, c, h => by
    unfold bld at h
    split at h
    · cases h
    · cases h; decide
  | s :: L, σ, i, j, c, h => by
    unfold bld at h
    cases hs : stp σ s with
    | error e =>
      rw [hs] at h
      cases h
      exact stp_err hs
    | ok τ =>
      rw [hs] at h
      exact bld_err h
theorem stp_nb {σ τ : St} {s : Rd.Sm} (hs : Sb s) (hσ : ∀ x ∈ σ.l, Nb x) (h : stp σ s = .ok τ) : ∀ x ∈ τ.l, Nb x := by
  obtain ⟨b1, b2, b3, b4, b5, b6⟩ := hs
  unfold stp at h
  split at h
  · split at h
    · cases h
    · split at h
      · cases h
      · split at h
        · cases h; exact hσ
        · cases h
  · split at h
    · cases h
    · split at h
      · cases h
      · split at h
        · cases h
        · split at h
          · cases h
          · rename_i d hd
            cases h
            intro x hx
            rcases List.mem_append.1 hx with hx | hx
            · exact hσ x hx
            · simp only [List.mem_singleton] at hx
              subst hx
              refine ⟨by show d.length ≤ 1000; have := (shp_rgt hd).1; omega, b5, b4, ?_, b6⟩
              simp only [nod]
              split
              · exact b1
              · exact Nat.zero_le _
theorem bld_nb : ∀ {L : List Rd.Sm} {σ : St} {i : Nat} {l : List Nd} {loss : Int}, (∀ s ∈ L, Sb s) → (∀ x ∈ σ.l, Nb x) → bld σ i L = .ok (l, loss) → ∀ x ∈ l, Nb x
  | [], σ, i, l, loss, _, hσ, h => by
    unfold bld at h
    split at h
    · cases h; exact hσ
    · cases h
  | s :: L, σ, i, l, loss, hL, hσ, h => by
    unfold bld at h
    cases hs : stp σ s with
    | error e => rw [hs] at h; cases h
    | ok τ =>
      rw [hs] at h
      exact bld_nb (fun s hs => hL s (List.mem_cons_of_mem _ hs)) (stp_nb (hL s (by simp)) hσ hs) h
theorem inf42 : (Tryz.prog.info? 42).map (fun i => (i.zero, i.size, i.bytes)) = some (some zv, 7, 128) := by kernel_rfl
end Go.Proofs.YtadgnafafdfioaaGreatDoor.Gr
