/-
  LINES IN MEMORY: a slice of lines of one's own, each with a slice of words; what holds of them later. Nothing of the program's text is named here. No conditions.
-/
import Derived.Test.YtadgnafafdfioaaGreatDoorLx
import Derived.Test.YtadgnafafdfioaaGreatDoorTs
import Derived.WalkKit
import Derived.WalkSpells
import Derived.WalkLawsBesides
namespace Go.Proofs.YtadgnafafdfioaaGreatDoor.Lx
set_option maxRecDepth 100000
open Go.RowKit
set_option linter.unusedVariables false

/-- what held of a slice of one's own holds later -/
theorem own_below {w w' : World} {base e size n : Nat} {v : Value} {xs : List Value} (h : w.ownsRow base e size v n xs) (hb : Below w.heap.size w w') : w'.ownsRow base e size v n xs :=
  h.kept (row := none) ⟨hb.os, hb.tape, hb.output, hb.size, fun k hk _ => hb.block k hk⟩ (by cases hv : v.ownBlock <;> simp)
theorem own_mono {w : World} {base base' e size n : Nat} {v : Value} {xs : List Value} (h : w.ownsRow base e size v n xs) (hb : base' ≤ base) : w.ownsRow base' e size v n xs := by
  refine ⟨h.1, ?_⟩
  rcases h.2 with h1 | ⟨g, c, cur, h1, h2, h3⟩
  · exact Or.inl h1
  · exact Or.inr ⟨g, c, cur, h1, by omega, h3⟩
/-- two slices of one's own, of other types, lie apart -/
theorem own_ne {w : World} {b1 b2 e1 e2 s1 s2 n1 n2 : Nat} {v1 v2 : Value} {x1 x2 : List Value} (h1 : w.ownsRow b1 e1 s1 v1 n1 x1) (h2 : w.ownsRow b2 e2 s2 v2 n2 x2) (hne : e1 ≠ e2) : v1.ownBlock = none ∨ v1.ownBlock ≠ v2.ownBlock := by
  rcases h1.2 with ⟨rfl, _⟩ | ⟨g, cap, cur, rfl, _, hg, _⟩
  · exact Or.inl rfl
  · right
    rcases h2.2 with ⟨rfl, _⟩ | ⟨g', cap', cur', rfl, _, hg', _⟩
    · simp [Value.ownBlock]
    · simp only [Value.ownBlock, ne_eq, Option.some.injEq]
      intro e
      subst e
      rw [hg] at hg'
      cases hg'
      exact hne rfl
theorem own_grown {w w' : World} {b1 b2 e1 e2 s1 s2 n1 n2 : Nat} {v1 v2 : Value} {x1 x2 : List Value} (h1 : w.ownsRow b1 e1 s1 v1 n1 x1) (h2 : w.ownsRow b2 e2 s2 v2 n2 x2) (hne : e1 ≠ e2) (hg : w.grownBy w' v2.ownBlock) : w'.ownsRow b1 e1 s1 v1 n1 x1 :=
  h1.kept hg (own_ne h1 h2 hne)

/-- a text -/
def tx (l : Bt) : Value := .string ⟨l.toArray⟩
def wv (ws : List Bt) : List Value := ws.map tx
theorem wv_len (ws : List Bt) : (wv ws).length = ws.length := by simp [wv]
/-- a slice of texts -/
def Ow (w : World) (u : Value) (ws : List Bt) : Prop := w.ownsRow 0 9 1 u ws.length (wv ws)
theorem Ow.below {w w' : World} {u : Value} {ws : List Bt} (h : Ow w u ws) (hb : Below w.heap.size w w') : Ow w' u ws := own_below h hb
/-- numbers and slices of texts, as cells -/
def flat (us : List (Nat × Value)) : List Value := us.flatMap fun p => [.int .i64 (p.1 : Int), p.2]
theorem flat_app (a b : List (Nat × Value)) : flat (a ++ b) = flat a ++ flat b := by simp [flat]
theorem flat_len (us : List (Nat × Value)) : (flat us).length = us.length * 2 := by
  induction us with
  | nil => rfl
  | cons p us ih =>
    have e : flat (p :: us) = [.int .i64 (p.1 : Int), p.2] ++ flat us := by simp [flat]
    rw [e, List.length_append, ih]; simp; omega
theorem flat_at : ∀ (us : List (Nat × Value)) (i n : Nat) (u : Value), us[i]? = some (n, u) → (flat us)[i * 2]? = some (.int .i64 (n : Int)) ∧ (flat us)[i * 2 + 1]? = some u
  | [], i, n, u, h => by simp at h
  | p :: us, 0, n, u, h => by
    simp at h; subst h
    simp [flat]
  | p :: us, i + 1, n, u, h => by
    have ih := flat_at us i n u (by simpa using h)
    have e : flat (p :: us) = .int .i64 (p.1 : Int) :: p.2 :: flat us := by simp [flat]
    rw [e, show (i + 1) * 2 = i * 2 + 1 + 1 by omega, show i * 2 + 1 + 1 + 1 = (i * 2 + 1) + 1 + 1 by omega]
    simpa using ih
/-- the lines that they are -/
def Lw (w : World) : List (Nat × Value) → List (Nat × List Bt) → Prop
  | [], [] => True
  | p :: us, l :: ls => p.1 = l.1 ∧ Ow w p.2 l.2 ∧ Lw w us ls
  | _, _ => False
theorem Lw.len {w : World} : ∀ {us : List (Nat × Value)} {ls : List (Nat × List Bt)}, Lw w us ls → us.length = ls.length
  | [], [], _ => rfl
  | p :: us, l :: ls, h => by simp [Lw.len h.2.2]
  | [], _ :: _, h => h.elim
  | _ :: _, [], h => h.elim
theorem Lw.mono {w w' : World} (hw : ∀ u ws, Ow w u ws → Ow w' u ws) : ∀ {us : List (Nat × Value)} {ls : List (Nat × List Bt)}, Lw w us ls → Lw w' us ls
  | [], [], _ => True.intro
  | p :: us, l :: ls, h => ⟨h.1, hw _ _ h.2.1, Lw.mono hw h.2.2⟩
  | [], _ :: _, h => h.elim
  | _ :: _, [], h => h.elim
theorem Lw.below {w w' : World} {us : List (Nat × Value)} {ls : List (Nat × List Bt)} (h : Lw w us ls) (hb : Below w.heap.size w w') : Lw w' us ls := h.mono fun _ _ h => h.below hb
theorem Lw.snoc {w : World} {n : Nat} {u : Value} {ws : List Bt} (hu : Ow w u ws) : ∀ {us : List (Nat × Value)} {ls : List (Nat × List Bt)}, Lw w us ls → Lw w (us ++ [(n, u)]) (ls ++ [(n, ws)])
  | [], [], _ => ⟨rfl, hu, True.intro⟩
  | p :: us, l :: ls, h => ⟨h.1, h.2.1, Lw.snoc hu h.2.2⟩
  | [], _ :: _, h => h.elim
  | _ :: _, [], h => h.elim
theorem Lw.get {w : World} : ∀ {us : List (Nat × Value)} {ls : List (Nat × List Bt)}, Lw w us ls → ∀ {i n : Nat} {ws : List Bt}, ls[i]? = some (n, ws) → ∃ u, us[i]? = some (n, u) ∧ Ow w u ws
  | [], [], _, i, n, ws, hi => by simp at hi
  | p :: us, l :: ls, h, 0, n, ws, hi => by
    simp at hi; subst hi
    have e : p.1 = n := h.1
    exact ⟨p.2, by rw [← e]; rfl, h.2.1⟩
  | p :: us, l :: ls, h, i + 1, n, ws, hi => Lw.get h.2.2 (by simpa using hi)
  | [], _ :: _, h, _, _, _, _ => h.elim
  | _ :: _, [], h, _, _, _, _ => h.elim

/-- a slice of lines of one's own -/
structure Ls (w : World) (base e : Nat) (v : Value) (us : List (Nat × Value)) (ls : List (Nat × List Bt)) : Prop where
  own : w.ownsRow base e 2 v ls.length (flat us)
  all : Lw w us ls
theorem Ls.below {w w' : World} {base e : Nat} {v : Value} {us : List (Nat × Value)} {ls : List (Nat × List Bt)} (h : Ls w base e v us ls) (hb : Below w.heap.size w w') : Ls w' base e v us ls := ⟨own_below h.own hb, h.all.below hb⟩
theorem Ls.mono {w : World} {base base' e : Nat} {v : Value} {us : List (Nat × Value)} {ls : List (Nat × List Bt)} (h : Ls w base e v us ls) (hb : base' ≤ base) : Ls w base' e v us ls := ⟨own_mono h.own hb, h.all⟩
theorem Ls.nil (w : World) (base e : Nat) : Ls w base e (.slice none 0 0) [] [] := ⟨World.ownsRow_nil w base e 2, True.intro⟩
/-- a line more, appended -/
theorem Ls.snoc {w w' : World} {base e n : Nat} {v v' u : Value} {us : List (Nat × Value)} {ls : List (Nat × List Bt)} {ws : List Bt} (h : Ls w base e v us ls) (hu : Ow w u ws) (he : e ≠ 9)
    (hown : w'.ownsRow base e 2 v' (ls.length + 1) (flat us ++ [.int .i64 (n : Int), u])) (hg : w.grownBy w' v.ownBlock) : Ls w' base e v' (us ++ [(n, u)]) (ls ++ [(n, ws)]) := by
  have k : ∀ u ws, Ow w u ws → Ow w' u ws := fun u ws hu => own_grown hu h.own (Ne.symm he) hg
  refine ⟨?_, (h.all.mono k).snoc (k _ _ hu)⟩
  rw [flat_app, List.length_append]
  exact hown
/-- what is read of them -/
theorem Ls.form {w : World} {base e : Nat} {v : Value} {us : List (Nat × Value)} {ls : List (Nat × List Bt)} (h : Ls w base e v us ls) : ∃ ao cap, v = .slice ao ls.length cap ∧ (ao = none → ls.length = 0 ∧ cap = 0) ∧ ls.length ≤ maxLen := by
  rcases h.own.2 with ⟨h1, h2⟩ | ⟨g, c, cur, h1, h2, h3, h4, h5, _⟩
  · exact ⟨none, 0, by rw [h1, h2], fun _ => ⟨h2, rfl⟩, by omega⟩
  · exact ⟨some ⟨g, 0, none⟩, c, h1, (fun h => by cases h), by omega⟩
theorem Ls.get {w : World} {base e : Nat} {v : Value} {us : List (Nat × Value)} {ls : List (Nat × List Bt)} (h : Ls w base e v us ls) {i n : Nat} {ws : List Bt} (hi : ls[i]? = some (n, ws)) :
    ∃ g cap u, v = .slice (some ⟨g, 0, none⟩) ls.length cap ∧ w.cell? ⟨g, i * 2, none⟩ = some (.int .i64 (n : Int)) ∧ w.cell? ⟨g, i * 2 + 1, none⟩ = some u ∧ Ow w u ws ∧ g < w.heap.size := by
  obtain ⟨u, hu, how⟩ := h.all.get hi
  have hil : i < ls.length := (List.getElem?_eq_some_iff.1 hi).1
  obtain ⟨f1, f2⟩ := flat_at us i n u hu
  rcases h.own.2 with ⟨h1, h2⟩ | ⟨g, c, cur, rfl, h2, h3, h4, h5, _⟩
  · omega
  · refine ⟨g, c, u, rfl, ?_, ?_, how, (Array.getElem?_eq_some_iff.1 h3).1⟩
    · rw [h.own.cellAt (i * 2) (by omega)]; exact f1
    · rw [h.own.cellAt (i * 2 + 1) (by omega)]; exact f2
theorem Ow.form {w : World} {u : Value} {ws : List Bt} (h : Ow w u ws) : ∃ ao cap, u = .slice ao ws.length cap ∧ (ao = none → ws.length = 0 ∧ cap = 0) ∧ ws.length ≤ maxLen := by
  rcases h.2 with ⟨h1, h2⟩ | ⟨g, c, cur, h1, h2, h3, h4, h5, _⟩
  · exact ⟨none, 0, by rw [h1, h2], fun _ => ⟨h2, rfl⟩, by omega⟩
  · exact ⟨some ⟨g, 0, none⟩, c, h1, (fun h => by cases h), by omega⟩
theorem Ow.get {w : World} {u : Value} {ws : List Bt} (h : Ow w u ws) {k : Nat} {x : Bt} (hk : ws[k]? = some x) : ∃ g cap, u = .slice (some ⟨g, 0, none⟩) ws.length cap ∧ w.cell? ⟨g, k, none⟩ = some (.string ⟨x.toArray⟩) ∧ g < w.heap.size := by
  have hkl : k < ws.length := (List.getElem?_eq_some_iff.1 hk).1
  have hw : (wv ws)[k]? = some (tx x) := by unfold wv; rw [List.getElem?_map, hk]; rfl
  rcases h.2 with ⟨h1, h2⟩ | ⟨g, c, cur, rfl, h2, h3, h4, h5, _⟩
  · omega
  · exact ⟨g, c, rfl, by rw [World.ownsRow.cellAt h k (by omega)]; exact hw, (Array.getElem?_eq_some_iff.1 h3).1⟩
end Go.Proofs.YtadgnafafdfioaaGreatDoor.Lx
