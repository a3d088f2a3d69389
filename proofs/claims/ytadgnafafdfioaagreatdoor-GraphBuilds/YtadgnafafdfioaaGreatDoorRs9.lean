/-
  STATEMENTS IN MEMORY: a slice of one's own. Conditions: each theorem's own.
-/
import Derived.Test.YtadgnafafdfioaaGreatDoorRo9
import Derived.Test.YtadgnafafdfioaaGreatDoorLi
namespace Go.Proofs.YtadgnafafdfioaaGreatDoor.Rd
set_option maxRecDepth 100000
open Go.RowKit
set_option linter.unusedVariables false
set_option linter.unusedSimpArgs false

theorem inf26 : (Tryz.prog.info? 41).map (fun i => (i.zero, i.size, i.bytes)) = some (some zv, 7, 128) := by kernel_rfl
theorem So.grown {w w' : World} {B b2 n2 : Nat} {v v2 : Value} {s : Sm} {x2 : List Value} (h : So w B v s) (h2 : w.ownsRow b2 41 7 v2 n2 x2) (hg : w.grownBy w' v2.ownBlock) : So w' B v s := by
  obtain ⟨ua, ud, ut, e, p1, p2, p3⟩ := h
  exact ⟨ua, ud, ut, e, Lx.own_grown p1 h2 (by decide) hg, Lx.own_grown p2 h2 (by decide) hg, Lx.own_grown p3.1 h2 (by decide) hg, p3.2⟩
/-- a statement's cells -/
def cls : Value → List Value
  | .agg a => a.toList
  | _ => []
theorem cls_len {w : World} {B : Nat} {v : Value} {s : Sm} (h : So w B v s) : (cls v).length = 7 := by
  obtain ⟨ua, ud, ut, rfl, _⟩ := h
  rfl
def flat (us : List Value) : List Value := us.flatMap cls
theorem flat_app (a b : List Value) : flat (a ++ b) = flat a ++ flat b := by simp [flat]
/-- the statements that they are -/
def Lw (w : World) : List Value → List Sm → Prop
  | [], [] => True
  | u :: us, s :: ss => So w 0 u s ∧ Lw w us ss
  | _, _ => False
theorem Lw.mono {w w' : World} (hw : ∀ u s, So w 0 u s → So w' 0 u s) : ∀ {us : List Value} {ss : List Sm}, Lw w us ss → Lw w' us ss
  | [], [], _ => True.intro
  | u :: us, s :: ss, h => ⟨hw _ _ h.1, Lw.mono hw h.2⟩
  | [], _ :: _, h => h.elim
  | _ :: _, [], h => h.elim
theorem Lw.snoc {w : World} {u : Value} {s : Sm} (hu : So w 0 u s) : ∀ {us : List Value} {ss : List Sm}, Lw w us ss → Lw w (us ++ [u]) (ss ++ [s])
  | [], [], _ => ⟨hu, True.intro⟩
  | p :: us, l :: ls, h => ⟨h.1, Lw.snoc hu h.2⟩
  | [], _ :: _, h => h.elim
  | _ :: _, [], h => h.elim
theorem flat_at {w : World} : ∀ {us : List Value} {ss : List Sm}, Lw w us ss → ∀ {i : Nat} {s : Sm}, ss[i]? = some s → ∃ u, us[i]? = some u ∧ So w 0 u s ∧ ∀ j, j < 7 → (flat us)[i * 7 + j]? = (cls u)[j]?
  | [], [], _, i, s, hi => by simp at hi
  | u :: us, t :: ss, h, 0, s, hi => by
    simp at hi; subst hi
    refine ⟨u, rfl, h.1, fun j hj => ?_⟩
    have hl := cls_len h.1
    have e : flat (u :: us) = cls u ++ flat us := by simp [flat]
    rw [e, Nat.zero_mul, Nat.zero_add, List.getElem?_append_left (by omega)]
  | u :: us, t :: ss, h, i + 1, s, hi => by
    obtain ⟨v, h1, h2, h3⟩ := flat_at h.2 (i := i) (by simpa using hi)
    refine ⟨v, by simpa using h1, h2, fun j hj => ?_⟩
    have hl := cls_len h.1
    have e : flat (u :: us) = cls u ++ flat us := by simp [flat]
    rw [e, List.getElem?_append_right (by omega), hl, show (i + 1) * 7 + j - 7 = i * 7 + j by omega]
    exact h3 j hj
  | [], _ :: _, h, _, _, _ => h.elim
  | _ :: _, [], h, _, _, _ => h.elim

/-- a slice of statements of one's own -/
structure Lo (w : World) (base : Nat) (v : Value) (us : List Value) (ss : List Sm) : Prop where
  own : w.ownsRow base 41 7 v ss.length (flat us)
  all : Lw w us ss
theorem Lo.nil (w : World) (base : Nat) : Lo w base (.slice none 0 0) [] [] := ⟨World.ownsRow_nil w base 41 7, True.intro⟩
theorem Lo.below {w w' : World} {base : Nat} {v : Value} {us : List Value} {ss : List Sm} (h : Lo w base v us ss) (hb : Below w.heap.size w w') : Lo w' base v us ss := ⟨Lx.own_below h.own hb, h.all.mono fun u s h => h.below hb⟩
theorem Lo.mono {w : World} {base base' : Nat} {v : Value} {us : List Value} {ss : List Sm} (h : Lo w base v us ss) (hb : base' ≤ base) : Lo w base' v us ss := ⟨Lx.own_mono h.own hb, h.all⟩
theorem Lo.snoc {w w' : World} {base : Nat} {v v' u : Value} {us : List Value} {ss : List Sm} {s : Sm} (h : Lo w base v us ss) (hu : So w 0 u s)
    (hown : w'.ownsRow base 41 7 v' (ss.length + 1) (flat us ++ cls u)) (hg : w.grownBy w' v.ownBlock) : Lo w' base v' (us ++ [u]) (ss ++ [s]) := by
  have k : ∀ u s, So w 0 u s → So w' 0 u s := fun u s hu => hu.grown h.own hg
  refine ⟨?_, (h.all.mono k).snoc (k _ _ hu)⟩
  have e : flat [u] = cls u := by simp [flat]
  rw [flat_app, List.length_append, e]
  exact hown
theorem Lo.form {w : World} {base : Nat} {v : Value} {us : List Value} {ss : List Sm} (h : Lo w base v us ss) : ∃ ao cap, v = .slice ao ss.length cap := by
  rcases h.own.2 with ⟨h1, h2⟩ | ⟨g, c, cur, h1, h2, h3, h4, h5, _⟩
  · exact ⟨none, 0, by rw [h1, h2]⟩
  · exact ⟨some ⟨g, 0, none⟩, c, h1⟩
theorem Lo.get {w : World} {base : Nat} {v : Value} {us : List Value} {ss : List Sm} (h : Lo w base v us ss) {i : Nat} {s : Sm} (hi : ss[i]? = some s) :
    ∃ g cap u, v = .slice (some ⟨g, 0, none⟩) ss.length cap ∧ So w 0 u s ∧ (∀ j, j < 7 → w.cell? ⟨g, i * 7 + j, none⟩ = (cls u)[j]?) ∧ g < w.heap.size := by
  obtain ⟨u, _, hu, hf⟩ := flat_at h.all hi
  have hil : i < ss.length := (List.getElem?_eq_some_iff.1 hi).1
  rcases h.own.2 with ⟨h1, h2⟩ | ⟨g, c, cur, rfl, h2, h3, h4, h5, _⟩
  · omega
  · refine ⟨g, c, u, rfl, hu, fun j hj => ?_, (Array.getElem?_eq_some_iff.1 h3).1⟩
    rw [h.own.cellAt (i * 7 + j) (by omega)]
    exact hf j hj
theorem Lx_kept {w w' : World} {b1 b2 n2 : Nat} {v v2 : Value} {us : List (Nat × Value)} {ls : List (Nat × List (List UInt8))} {x2 : List Value} (h : Lx.Ls w b1 65 v us ls) (h2 : w.ownsRow b2 41 7 v2 n2 x2) (hg : w.grownBy w' v2.ownBlock) : Lx.Ls w' b1 65 v us ls :=
  ⟨Lx.own_grown h.own h2 (by decide) hg, h.all.mono fun u ws hu => Lx.own_grown hu h2 (by decide) hg⟩

theorem wv_txts (ws : List (List UInt8)) : Lx.wv ws = txts (bas ws) := by
  unfold Lx.wv txts bas
  rw [List.map_map]
  rfl
theorem bas_len (ws : List (List UInt8)) : (bas ws).length = ws.length := by simp [bas]
theorem ow_full {w : World} {u : Value} {ws : List (List UInt8)} (h : Lx.Ow w u ws) : ∃ ao cap, u = .slice ao (bas ws).length cap ∧ Row w ao (txts (bas ws)) ∧ (bas ws).length ≤ cap ∧ cap ≤ maxLen := by
  have h' : w.ownsRow 0 9 1 u ws.length (txts (bas ws)) := by rw [← wv_txts]; exact h
  rw [bas_len]
  obtain ⟨ao, cap, rfl, hR, hN, hc, _⟩ := Row.of_own h'
  refine ⟨ao, cap, rfl, hR, hc, ?_⟩
  rcases h'.2 with ⟨h1, h2⟩ | ⟨g, c, cur, h1, h2, h3, h4, h5, _⟩
  · simp only [Value.slice.injEq] at h1
    rw [h1.2.2]; unfold maxLen; omega
  · simp only [Value.slice.injEq] at h1
    rw [h1.2.2]; exact h5

theorem fl_mem {w x : List UInt8} (h : x ∈ Lx.fl w) : x = w := by
  unfold Lx.fl at h
  split at h
  · simp at h
  · simpa using h
theorem tl_size : ∀ (s : List UInt8) (n : Nat) (W : List (List UInt8)) (w : List UInt8) (off : Bool), ∀ x ∈ Lx.tl n W w off s, ∀ y ∈ x.2, y ∈ W ∨ y.length ≤ w.length + s.length
  | [], n, W, w, off, x, h, y, hy => by
    rw [Lx.tl] at h
    unfold Lx.ln1 at h
    split at h
    · simp at h
    · simp at h; subst h
      rcases List.mem_append.1 hy with h | h
      · exact Or.inl h
      · right; rw [fl_mem h]; simp
  | b :: s, n, W, w, off, x, h, y, hy => by
    have step : ∀ y, y ∈ W ++ Lx.fl w → y ∈ W ∨ y.length ≤ w.length + (b :: s).length := by
      intro y hy
      rcases List.mem_append.1 hy with h | h
      · exact Or.inl h
      · right; rw [fl_mem h]; simp only [List.length_cons]; omega
    rw [Lx.tl] at h
    split at h
    · rcases List.mem_append.1 h with h | h
      · unfold Lx.ln1 at h
        split at h
        · simp at h
        · simp at h; subst h
          exact step y hy
      · rcases tl_size s (n + 1) [] [] false x h y hy with h | h
        · simp at h
        · right; simp only [List.length_nil, List.length_cons] at *; omega
    · split at h
      · rcases tl_size s n (W ++ Lx.fl w) [] (off || b == 35) x h y hy with h | h
        · exact step y h
        · right; simp only [List.length_nil, List.length_cons] at *; omega
      · rcases tl_size s n W (w ++ [b]) off x h y hy with h | h
        · exact Or.inl h
        · right; simp only [List.length_append, List.length_cons, List.length_nil] at *; omega
theorem lns_size (s : ByteArray) : ∀ x ∈ Lx.lns s.data.toList, ∀ y ∈ bas x.2, y.size ≤ s.size := by
  intro x hx y hy
  obtain ⟨z, hz, rfl⟩ := List.mem_map.1 hy
  have h1 : s.data.toList.length = s.size := rfl
  have h2 : (str z).size = z.length := rfl
  rcases tl_size s.data.toList 1 [] [] false x hx z hz with h | h
  · simp at h
  · simp only [List.length_nil] at h; omega
theorem tl_words : ∀ (s : List UInt8) (n : Nat) (W : List (List UInt8)) (w : List UInt8) (off : Bool), ∀ x ∈ Lx.tl n W w off s, x.2.length ≤ W.length + 1 + s.length
  | [], n, W, w, off, x, h => by
    rw [Lx.tl] at h
    unfold Lx.ln1 at h
    split at h
    · simp at h
    · simp at h; subst h
      have : (Lx.fl w).length ≤ 1 := by unfold Lx.fl; split <;> simp
      simp only [List.length_append, List.length_nil]; omega
  | b :: s, n, W, w, off, x, h => by
    have h1 : (Lx.fl w).length ≤ 1 := by unfold Lx.fl; split <;> simp
    rw [Lx.tl] at h
    split at h
    · rcases List.mem_append.1 h with h | h
      · unfold Lx.ln1 at h
        split at h
        · simp at h
        · simp at h; subst h
          simp only [List.length_append, List.length_cons]; omega
      · have := tl_words s (n + 1) [] [] false x h
        simp only [List.length_nil, List.length_cons] at *; omega
    · split at h
      · have := tl_words s n (W ++ Lx.fl w) [] (off || b == 35) x h
        simp only [List.length_append, List.length_cons] at *; omega
      · have := tl_words s n W (w ++ [b]) off x h
        simp only [List.length_cons]; omega
theorem lns_len (s : ByteArray) : (Lx.lns s.data.toList).length ≤ s.size + 1 := Lx.tl_len _ _ _ _ _
theorem lns_words (s : ByteArray) : ∀ x ∈ Lx.lns s.data.toList, (bas x.2).length ≤ 1 + s.size := fun x hx => by
  have := tl_words s.data.toList 1 [] [] false x hx
  have h1 : s.data.toList.length = s.size := rfl
  rw [bas_len]
  simp only [List.length_nil] at this
  omega
theorem Row.seven {w : World} {b : Nat} {v0 v1 v2 v3 v4 v5 v6 : Value} (h0 : w.cell? ⟨b, 0, none⟩ = some v0) (h1 : w.cell? ⟨b, 1, none⟩ = some v1) (h2 : w.cell? ⟨b, 2, none⟩ = some v2) (h3 : w.cell? ⟨b, 3, none⟩ = some v3) (h4 : w.cell? ⟨b, 4, none⟩ = some v4) (h5 : w.cell? ⟨b, 5, none⟩ = some v5) (h6 : w.cell? ⟨b, 6, none⟩ = some v6) : Row w (some ⟨b, 0, none⟩) [v0, v1, v2, v3, v4, v5, v6] := by
  intro i x hi
  match i, hi with
  | 0, hi => simp at hi; subst hi; exact ⟨b, 0, rfl, h0⟩
  | 1, hi => simp at hi; subst hi; exact ⟨b, 0, rfl, h1⟩
  | 2, hi => simp at hi; subst hi; exact ⟨b, 0, rfl, h2⟩
  | 3, hi => simp at hi; subst hi; exact ⟨b, 0, rfl, h3⟩
  | 4, hi => simp at hi; subst hi; exact ⟨b, 0, rfl, h4⟩
  | 5, hi => simp at hi; subst hi; exact ⟨b, 0, rfl, h5⟩
  | 6, hi => simp at hi; subst hi; exact ⟨b, 0, rfl, h6⟩
  | i + 7, hi => simp at hi
end Go.Proofs.YtadgnafafdfioaaGreatDoor.Rd
