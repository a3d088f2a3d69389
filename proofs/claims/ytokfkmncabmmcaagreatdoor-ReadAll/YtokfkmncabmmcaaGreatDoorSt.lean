/-
  WHAT STANDS BETWEEN THE BYTES OF THE DOCUMENT's LINES: the lines so far, and the words of the one that is being read, each in memory of its own. Nothing of the program's text is named here. No conditions.
-/
import Derived.Test.YtokfkmncabmmcaaGreatDoorMl
import Derived.Test.YtokfkmncabmmcaaGreatDoorLy
namespace Go.Proofs.YtokfkmncabmmcaaGreatDoor.Lx
set_option maxRecDepth 100000
open Go.RowKit
set_option linter.unusedVariables false

theorem Lw.mono' {w w' : World} : ∀ {us : List (Nat × Value)} {ls : List (Nat × List Bt)}, (∀ p ∈ us, ∀ ws, Ow w p.2 ws → Ow w' p.2 ws) → Lw w us ls → Lw w' us ls
  | [], [], _, _ => True.intro
  | p :: us, l :: ls, hw, h => ⟨h.1, hw p (by simp) _ h.2.1, Lw.mono' (fun q hq => hw q (by simp [hq])) h.2.2⟩
  | [], _ :: _, _, h => h.elim
  | _ :: _, [], _, h => h.elim
theorem Lw.lt {w : World} : ∀ {us : List (Nat × Value)} {ls : List (Nat × List Bt)}, Lw w us ls → ∀ p ∈ us, ∀ k, p.2.ownBlock = some k → k < w.heap.size
  | [], [], _, p, hp, _, _ => by simp at hp
  | q :: us, l :: ls, h, p, hp, k, hk => by
    rcases List.mem_cons.1 hp with rfl | hp
    · exact (World.ownsRow.lt h.2.1 k hk).2
    · exact Lw.lt h.2.2 p hp k hk
  | [], _ :: _, h, _, _, _, _ => h.elim
  | _ :: _, [], h, _, _, _, _ => h.elim

structure St (w wr : World) (B : Nat) (v u : Value) (us : List (Nat × Value)) (ls : List (Nat × List Bt)) (W : List Bt) : Prop where
  out : Ls wr w.heap.size 42 v us ls
  wds : wr.ownsRow B 9 1 u W.length (wv W)
  apart : ∀ p ∈ us, ∀ k, p.2.ownBlock = some k → k < B
  low : w.heap.size ≤ B
  big : B ≤ wr.heap.size
  bel : Below w.heap.size w wr

variable {w wr w' : World} {B : Nat} {v u v' u' : Value} {us : List (Nat × Value)} {ls : List (Nat × List Bt)} {W : List Bt}

theorem St.start (w : World) : St w w w.heap.size (.slice none 0 0) (.slice none 0 0) [] [] [] :=
  ⟨Ls.nil _ _ _, World.ownsRow_nil _ _ _ _, fun p hp => by simp at hp, Nat.le_refl _, Nat.le_refl _, Below.refl _ _⟩
theorem St.below (h : St w wr B v u us ls W) (hb : Below wr.heap.size wr w') : St w w' B v u us ls W :=
  ⟨h.out.below hb, own_below h.wds hb, h.apart, h.low, Nat.le_trans h.big hb.size, h.bel.trans (hb.mono (Nat.le_trans h.low h.big))⟩
theorem St.alloc (h : St w wr B v u us ls W) (o : Obj) : St w (wr.alloc o) B v u us ls W := h.below ((Below.refl _ wr).alloc (Nat.le_refl _) o)
/-- a word more -/
theorem St.word (h : St w wr B v u us ls W) (x : ByteArray) (hown : w'.ownsRow B 9 1 u' (W.length + 1) (wv W ++ [.string x])) (hg : wr.grownBy w' u.ownBlock) : St w w' B v u' us ls (W ++ [x.data.toList]) := by
  refine ⟨⟨own_grown h.out.own h.wds (by decide) hg, h.out.all.mono' fun p hp ws hw => ?_⟩, ?_, h.apart, h.low, Nat.le_trans h.big hg.size, h.bel.grown hg (Nat.le_trans h.low h.big) (fun k hk => Nat.le_trans h.low (h.wds.lt k hk).1)⟩
  · refine World.ownsRow.kept hw hg ?_
    cases hk : p.2.ownBlock with
    | none => exact Or.inl rfl
    | some k =>
      right
      intro e
      have h1 := h.apart p hp k hk
      have h2 := (h.wds.lt k e.symm).1
      omega
  · have e : wv (W ++ [x.data.toList]) = wv W ++ [.string x] := by
      unfold wv
      rw [List.map_append]
      show _ ++ [Value.string ⟨x.data.toList.toArray⟩] = _
      rw [toArray_data]
    rw [e, List.length_append]
    exact hown
/-- a line more -/
theorem St.line (h : St w wr B v u us ls W) (n : Nat) (hown : w'.ownsRow w.heap.size 42 2 v' (ls.length + 1) (flat us ++ [.int .i64 (n : Int), u])) (hg : wr.grownBy w' v.ownBlock) : St w w' w'.heap.size v' (.slice none 0 0) (us ++ [(n, u)]) (ls ++ [(n, W)]) [] := by
  have hO : Ow wr u W := own_mono h.wds (Nat.zero_le _)
  have hL := h.out.snoc hO (by decide) (n := n) hown hg
  exact ⟨hL, World.ownsRow_nil _ _ _ _, hL.all.lt, Nat.le_trans h.low (Nat.le_trans h.big hg.size), Nat.le_refl _, h.bel.grown hg (Nat.le_trans h.low h.big) (fun k hk => (h.out.own.lt k hk).1)⟩
/-- no word: none -/
theorem St.none (h : St w wr B v u us ls W) : St w wr wr.heap.size v (.slice none 0 0) us ls [] :=
  ⟨h.out, World.ownsRow_nil _ _ _ _, h.out.all.lt, Nat.le_trans h.low h.big, Nat.le_refl _, h.bel⟩
theorem St.form (h : St w wr B v u us ls W) : ∃ ao n cap, u = .slice ao n cap ∧ n = W.length := by
  obtain ⟨ao, cap, e, _⟩ := Ow.form (own_mono h.wds (Nat.zero_le _))
  exact ⟨ao, _, cap, e, rfl⟩
end Go.Proofs.YtokfkmncabmmcaaGreatDoor.Lx
