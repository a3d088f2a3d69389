/-
  A STATEMENT 'x, y := f(a), g(b)' WHOSE ORDER IS LEFT OPEN, BY AN INVARIANT: whatever order the draw takes. Conditions: each theorem's own.
-/
import Derived.Test.YtjkobbpebnkimaaGreatDoorDo
namespace Go.Proofs.YtjkobbpebnkimaaGreatDoor.Tn
set_option maxRecDepth 100000
open Go.RowKit Nm
set_option linter.unusedVariables false

/-- a step has been -/
abbrev on (L : Array Bool) (j : Nat) : Prop := L.getD j false = true
theorem on_set {L : Array Bool} {i j : Nat} (h : on (L.setIfInBounds i true) j) (hij : j ≠ i) : on L j := by
  unfold on at *
  rwa [getD_set_ne false (Ne.symm hij)] at h
theorem lcount {l : List Bool} {i : Nat} (h : l[i]? = some false) : (l.set i true).count false + 1 = l.count false := by
  induction l generalizing i with
  | nil => simp at h
  | cons b l ih =>
    cases i with
    | zero => simp at h; subst h; simp
    | succ i =>
      simp only [List.set_cons_succ, List.count_cons]
      have := ih (i := i) (by simpa using h)
      omega
theorem count_less {L : Array Bool} {i : Nat} (h : L.getD i true = false) : (L.setIfInBounds i true).toList.count false + 1 = L.toList.count false := by
  have hi : i < L.size := by
    rcases Nat.lt_or_ge i L.size with c | c
    · exact c
    · simp [Nat.not_lt.2 c] at h
  have e : (L.setIfInBounds i true).toList = L.toList.set i true := by simp
  rw [e]
  refine lcount ?_
  simp [hi] at h
  simp [hi, h]
/-- whatever order: by what stands at each point -/
theorem wpAny_inv {P : Program} {md : Region.Mode} {ops : Array Oper} {Q : Exit → Act → World → Prop} (I : Array Bool → Act → World → Prop)
    (hs : ∀ L a w i, I L a w → i ∈ Region.ready md ops L → wpOp P ops Q i (fun a' w' => I (L.setIfInBounds i true) a' w') a w)
    (hd : ∀ L a w, I L a w → Region.ready md ops L = [] → Q .normal a w) :
    ∀ (f : Nat) (L : Array Bool) (a : Act) (w : World), L.toList.count false ≤ f → I L a w → wpAny P md ops Q f L a w := by
  intro f
  induction f with
  | zero =>
    intro L a w hc hI
    have hr : Region.ready md ops L = [] := by
      apply List.eq_nil_iff_forall_not_mem.2
      intro i hi
      have := count_less (mem_ready.1 hi).1
      omega
    exact ⟨hr, hd L a w hI hr⟩
  | succ f ih =>
    intro L a w hc hI
    refine ⟨fun h => hd L a w hI h, fun i hi => ?_⟩
    have := count_less (mem_ready.1 hi).1
    exact wpOp_mono (fun a' w' h => ih _ a' w' (by omega) h) (hs L a w i hI hi)

theorem on_eq {L : Array Bool} {i j : Nat} (hij : j ≠ i) : (L.setIfInBounds i true).getD j false = L.getD j false := getD_set_ne false (Ne.symm hij)
theorem on_self {L : Array Bool} {i : Nat} (h : i < L.size) : on (L.setIfInBounds i true) i := by simp [on, h]
theorem off_of {L : Array Bool} {j : Nat} (h : L.getD j true = false) : ¬ on L j := by
  intro c
  unfold on at c
  rcases Nat.lt_or_ge j L.size with g | g
  · simp [g] at h c; rw [h] at c; cases c
  · simp [Nat.not_lt.2 g] at h
theorem off {L : Array Bool} {j : Nat} (hj : j < L.size) (h : ¬ on L j) : L.getD j true = false := by
  unfold on at h
  simp [hj] at h ⊢
  exact h
/-- what a place of two texts holds: these, once they were laid -/
def cel (L : Array Bool) (j : Nat) (P Q : ByteArray) : Array Value := if L.getD j false = true then #[.string P, .string Q] else #[.string ⟨#[]⟩, .string ⟨#[]⟩]
theorem cel_set {L : Array Bool} {i j : Nat} {P Q : ByteArray} (hij : j ≠ i) : cel (L.setIfInBounds i true) j P Q = cel L j P Q := by unfold cel; rw [on_eq hij]
theorem cel_on {L : Array Bool} {j : Nat} {P Q : ByteArray} (h : on L j) : cel L j P Q = #[.string P, .string Q] := if_pos h
theorem cel_off {L : Array Bool} {j : Nat} {P Q : ByteArray} (h : ¬ on L j) : cel L j P Q = #[.string ⟨#[]⟩, .string ⟨#[]⟩] := if_neg h
theorem set_two {w : World} {X : Nat} {x y p q : Value} {t : TypeId} (h : w.heap[X]? = some (.cells #[x, y] t (0, 0))) (h1 : p.oneCell' = true) (h2 : q.oneCell' = true) :
    ((w.setCell ⟨X, 0, none⟩ p).setCell ⟨X, 1, none⟩ q).heap[X]? = some (.cells #[p, q] t (0, 0)) := by
  have hl := lt_of_block h
  have e1 : (w.setCell ⟨X, 0, none⟩ p).heap[X]? = some (.cells #[p, y] t (0, 0)) := by
    unfold World.setCell
    simp only [Array.getElem?_modify, h]
    simp
  unfold World.setCell at e1 ⊢
  simp only [Array.getElem?_modify] at e1 ⊢
  simp only [if_true] at e1 ⊢
  rw [e1]
  simp
/-- what stands while 'x, y := f(a), g(b)' is under way -/
structure Pv (wr : World) (A B kk : Value) (P1 Q1 P2 Q2 : ByteArray) (L : Array Bool) (w : World) (s9 s10 s18 s19 s20 s21 s22 s23 : Value) : Prop where
  sz : L.size = 10
  h0 : on L 0 → s18 = A
  h1 : on L 1 → s19 = kk
  h2 : on L 2 → s20 = .agg #[.string P1, .string Q1]
  h3 : on L 3 → s21 = B
  h4 : on L 4 → s22 = kk
  h5 : on L 5 → s23 = .agg #[.string P2, .string Q2]
  bl : Below wr.heap.size wr w
  h6 : on L 6 → ∃ X, s9 = .pointer (some ⟨X, 0, none⟩) ∧ wr.heap.size ≤ X ∧ w.heap[X]? = some (.cells (cel L 8 P1 Q1) 51 (0, 0))
  h7 : on L 7 → ∃ Y, s10 = .pointer (some ⟨Y, 0, none⟩) ∧ wr.heap.size ≤ Y ∧ w.heap[Y]? = some (.cells (cel L 9 P2 Q2) 51 (0, 0))
  ne : on L 6 → on L 7 → s9 ≠ s10
  d8 : on L 8 → on L 6
  d9 : on L 9 → on L 7
section
variable {wr : World} {A B kk : Value} {P1 Q1 P2 Q2 : ByteArray} {L : Array Bool} {w w' : World} {s9 s10 s18 s19 s20 s21 s22 s23 : Value}
theorem Pv.t0 (h : Pv wr A B kk P1 Q1 P2 Q2 L w s9 s10 s18 s19 s20 s21 s22 s23) : Pv wr A B kk P1 Q1 P2 Q2 (L.setIfInBounds 0 true) w s9 s10 A s19 s20 s21 s22 s23 :=
  ⟨by simp [h.sz], fun _ => rfl, fun g => h.h1 (on_set g (by decide)), fun g => h.h2 (on_set g (by decide)), fun g => h.h3 (on_set g (by decide)), fun g => h.h4 (on_set g (by decide)), fun g => h.h5 (on_set g (by decide)), h.bl, fun g => by obtain ⟨X, e, hx, hc⟩ := h.h6 (on_set g (by decide)); exact ⟨X, e, hx, by rw [cel_set (by decide)]; exact hc⟩, fun g => by obtain ⟨X, e, hx, hc⟩ := h.h7 (on_set g (by decide)); exact ⟨X, e, hx, by rw [cel_set (by decide)]; exact hc⟩, fun g g' => h.ne (on_set g (by decide)) (on_set g' (by decide)), fun g => by unfold on; rw [on_eq (by decide)]; exact h.d8 (on_set g (by decide)), fun g => by unfold on; rw [on_eq (by decide)]; exact h.d9 (on_set g (by decide))⟩
theorem Pv.t1 (h : Pv wr A B kk P1 Q1 P2 Q2 L w s9 s10 s18 s19 s20 s21 s22 s23) : Pv wr A B kk P1 Q1 P2 Q2 (L.setIfInBounds 1 true) w s9 s10 s18 kk s20 s21 s22 s23 :=
  ⟨by simp [h.sz], fun g => h.h0 (on_set g (by decide)), fun _ => rfl, fun g => h.h2 (on_set g (by decide)), fun g => h.h3 (on_set g (by decide)), fun g => h.h4 (on_set g (by decide)), fun g => h.h5 (on_set g (by decide)), h.bl, fun g => by obtain ⟨X, e, hx, hc⟩ := h.h6 (on_set g (by decide)); exact ⟨X, e, hx, by rw [cel_set (by decide)]; exact hc⟩, fun g => by obtain ⟨X, e, hx, hc⟩ := h.h7 (on_set g (by decide)); exact ⟨X, e, hx, by rw [cel_set (by decide)]; exact hc⟩, fun g g' => h.ne (on_set g (by decide)) (on_set g' (by decide)), fun g => by unfold on; rw [on_eq (by decide)]; exact h.d8 (on_set g (by decide)), fun g => by unfold on; rw [on_eq (by decide)]; exact h.d9 (on_set g (by decide))⟩
theorem Pv.t3 (h : Pv wr A B kk P1 Q1 P2 Q2 L w s9 s10 s18 s19 s20 s21 s22 s23) : Pv wr A B kk P1 Q1 P2 Q2 (L.setIfInBounds 3 true) w s9 s10 s18 s19 s20 B s22 s23 :=
  ⟨by simp [h.sz], fun g => h.h0 (on_set g (by decide)), fun g => h.h1 (on_set g (by decide)), fun g => h.h2 (on_set g (by decide)), fun _ => rfl, fun g => h.h4 (on_set g (by decide)), fun g => h.h5 (on_set g (by decide)), h.bl, fun g => by obtain ⟨X, e, hx, hc⟩ := h.h6 (on_set g (by decide)); exact ⟨X, e, hx, by rw [cel_set (by decide)]; exact hc⟩, fun g => by obtain ⟨X, e, hx, hc⟩ := h.h7 (on_set g (by decide)); exact ⟨X, e, hx, by rw [cel_set (by decide)]; exact hc⟩, fun g g' => h.ne (on_set g (by decide)) (on_set g' (by decide)), fun g => by unfold on; rw [on_eq (by decide)]; exact h.d8 (on_set g (by decide)), fun g => by unfold on; rw [on_eq (by decide)]; exact h.d9 (on_set g (by decide))⟩
theorem Pv.t4 (h : Pv wr A B kk P1 Q1 P2 Q2 L w s9 s10 s18 s19 s20 s21 s22 s23) : Pv wr A B kk P1 Q1 P2 Q2 (L.setIfInBounds 4 true) w s9 s10 s18 s19 s20 s21 kk s23 :=
  ⟨by simp [h.sz], fun g => h.h0 (on_set g (by decide)), fun g => h.h1 (on_set g (by decide)), fun g => h.h2 (on_set g (by decide)), fun g => h.h3 (on_set g (by decide)), fun _ => rfl, fun g => h.h5 (on_set g (by decide)), h.bl, fun g => by obtain ⟨X, e, hx, hc⟩ := h.h6 (on_set g (by decide)); exact ⟨X, e, hx, by rw [cel_set (by decide)]; exact hc⟩, fun g => by obtain ⟨X, e, hx, hc⟩ := h.h7 (on_set g (by decide)); exact ⟨X, e, hx, by rw [cel_set (by decide)]; exact hc⟩, fun g g' => h.ne (on_set g (by decide)) (on_set g' (by decide)), fun g => by unfold on; rw [on_eq (by decide)]; exact h.d8 (on_set g (by decide)), fun g => by unfold on; rw [on_eq (by decide)]; exact h.d9 (on_set g (by decide))⟩
theorem Pv.t2 (h : Pv wr A B kk P1 Q1 P2 Q2 L w s9 s10 s18 s19 s20 s21 s22 s23) (hb : Below w.heap.size w w') : Pv wr A B kk P1 Q1 P2 Q2 (L.setIfInBounds 2 true) w' s9 s10 s18 s19 (.agg #[.string P1, .string Q1]) s21 s22 s23 :=
  ⟨by simp [h.sz], fun g => h.h0 (on_set g (by decide)), fun g => h.h1 (on_set g (by decide)), fun _ => rfl, fun g => h.h3 (on_set g (by decide)), fun g => h.h4 (on_set g (by decide)), fun g => h.h5 (on_set g (by decide)), bl_trans h.bl hb, fun g => by obtain ⟨X, e, hx, hc⟩ := h.h6 (on_set g (by decide)); exact ⟨X, e, hx, by rw [cel_set (by decide), hb.block X (lt_of_block hc)]; exact hc⟩, fun g => by obtain ⟨X, e, hx, hc⟩ := h.h7 (on_set g (by decide)); exact ⟨X, e, hx, by rw [cel_set (by decide), hb.block X (lt_of_block hc)]; exact hc⟩, fun g g' => h.ne (on_set g (by decide)) (on_set g' (by decide)), fun g => by unfold on; rw [on_eq (by decide)]; exact h.d8 (on_set g (by decide)), fun g => by unfold on; rw [on_eq (by decide)]; exact h.d9 (on_set g (by decide))⟩
theorem Pv.t5 (h : Pv wr A B kk P1 Q1 P2 Q2 L w s9 s10 s18 s19 s20 s21 s22 s23) (hb : Below w.heap.size w w') : Pv wr A B kk P1 Q1 P2 Q2 (L.setIfInBounds 5 true) w' s9 s10 s18 s19 s20 s21 s22 (.agg #[.string P2, .string Q2]) :=
  ⟨by simp [h.sz], fun g => h.h0 (on_set g (by decide)), fun g => h.h1 (on_set g (by decide)), fun g => h.h2 (on_set g (by decide)), fun g => h.h3 (on_set g (by decide)), fun g => h.h4 (on_set g (by decide)), fun _ => rfl, bl_trans h.bl hb, fun g => by obtain ⟨X, e, hx, hc⟩ := h.h6 (on_set g (by decide)); exact ⟨X, e, hx, by rw [cel_set (by decide), hb.block X (lt_of_block hc)]; exact hc⟩, fun g => by obtain ⟨X, e, hx, hc⟩ := h.h7 (on_set g (by decide)); exact ⟨X, e, hx, by rw [cel_set (by decide), hb.block X (lt_of_block hc)]; exact hc⟩, fun g g' => h.ne (on_set g (by decide)) (on_set g' (by decide)), fun g => by unfold on; rw [on_eq (by decide)]; exact h.d8 (on_set g (by decide)), fun g => by unfold on; rw [on_eq (by decide)]; exact h.d9 (on_set g (by decide))⟩
theorem Pv.t6 (h : Pv wr A B kk P1 Q1 P2 Q2 L w s9 s10 s18 s19 s20 s21 s22 s23) (hu : ¬ on L 6) : Pv wr A B kk P1 Q1 P2 Q2 (L.setIfInBounds 6 true) (w.alloc (.cells #[.string ⟨#[]⟩, .string ⟨#[]⟩] 51)) (.pointer (some ⟨w.heap.size, 0, none⟩)) s10 s18 s19 s20 s21 s22 s23 :=
  ⟨by simp [h.sz], fun g => h.h0 (on_set g (by decide)), fun g => h.h1 (on_set g (by decide)), fun g => h.h2 (on_set g (by decide)), fun g => h.h3 (on_set g (by decide)), fun g => h.h4 (on_set g (by decide)), fun g => h.h5 (on_set g (by decide)), bl_alloc h.bl _, fun _ => ⟨w.heap.size, rfl, h.bl.size, by rw [cel_set (by decide), cel_off (fun c => hu (h.d8 c))]; exact heap_alloc_new w _⟩, fun g => by obtain ⟨X, e, hx, hc⟩ := h.h7 (on_set g (by decide)); exact ⟨X, e, hx, by rw [cel_set (by decide), (bl_alloc (Below.refl w.heap.size w) (.cells #[.string ⟨#[]⟩, .string ⟨#[]⟩] 51)).block X (lt_of_block hc)]; exact hc⟩, fun _ g' c => by obtain ⟨X, e, hx, hc⟩ := h.h7 (on_set g' (by decide)); rw [e] at c; have := lt_of_block hc; simp at c <;> omega, fun _ => on_self (by rw [h.sz]; decide), fun g => by unfold on; rw [on_eq (by decide)]; exact h.d9 (on_set g (by decide))⟩
theorem Pv.t7 (h : Pv wr A B kk P1 Q1 P2 Q2 L w s9 s10 s18 s19 s20 s21 s22 s23) (hu : ¬ on L 7) : Pv wr A B kk P1 Q1 P2 Q2 (L.setIfInBounds 7 true) (w.alloc (.cells #[.string ⟨#[]⟩, .string ⟨#[]⟩] 51)) s9 (.pointer (some ⟨w.heap.size, 0, none⟩)) s18 s19 s20 s21 s22 s23 :=
  ⟨by simp [h.sz], fun g => h.h0 (on_set g (by decide)), fun g => h.h1 (on_set g (by decide)), fun g => h.h2 (on_set g (by decide)), fun g => h.h3 (on_set g (by decide)), fun g => h.h4 (on_set g (by decide)), fun g => h.h5 (on_set g (by decide)), bl_alloc h.bl _, fun g => by obtain ⟨X, e, hx, hc⟩ := h.h6 (on_set g (by decide)); exact ⟨X, e, hx, by rw [cel_set (by decide), (bl_alloc (Below.refl w.heap.size w) (.cells #[.string ⟨#[]⟩, .string ⟨#[]⟩] 51)).block X (lt_of_block hc)]; exact hc⟩, fun _ => ⟨w.heap.size, rfl, h.bl.size, by rw [cel_set (by decide), cel_off (fun c => hu (h.d9 c))]; exact heap_alloc_new w _⟩, fun g _ c => by obtain ⟨X, e, hx, hc⟩ := h.h6 (on_set g (by decide)); rw [e] at c; have := lt_of_block hc; simp at c <;> omega, fun g => by unfold on; rw [on_eq (by decide)]; exact h.d8 (on_set g (by decide)), fun _ => on_self (by rw [h.sz]; decide)⟩
theorem heap_two {w : World} {X Z : Nat} {p q : Value} (h : Z ≠ X) : ((w.setCell ⟨X, 0, none⟩ p).setCell ⟨X, 1, none⟩ q).heap[Z]? = w.heap[Z]? :=
  (Below.heap_setCell _ _ _ _ h).trans (Below.heap_setCell _ _ _ _ h)
theorem Pv.t8 {X : Nat} (h : Pv wr A B kk P1 Q1 P2 Q2 L w (.pointer (some ⟨X, 0, none⟩)) s10 s18 s19 s20 s21 s22 s23) (hx : wr.heap.size ≤ X) (hc : w.heap[X]? = some (.cells #[.string ⟨#[]⟩, .string ⟨#[]⟩] 51 (0, 0))) (g0 : on L 6) (hne : ¬ s10 = .pointer (some ⟨X, 0, none⟩)) :
    Pv wr A B kk P1 Q1 P2 Q2 (L.setIfInBounds 8 true) ((w.setCell ⟨X, 0, none⟩ (.string P1)).setCell ⟨X, 1, none⟩ (.string Q1)) (.pointer (some ⟨X, 0, none⟩)) s10 s18 s19 s20 s21 s22 s23 :=
  ⟨by simp [h.sz], fun g => h.h0 (on_set g (by decide)), fun g => h.h1 (on_set g (by decide)), fun g => h.h2 (on_set g (by decide)), fun g => h.h3 (on_set g (by decide)), fun g => h.h4 (on_set g (by decide)), fun g => h.h5 (on_set g (by decide)), bl_set (bl_set h.bl hx _) hx _, fun g => ⟨X, rfl, hx, by rw [cel_on (on_self (by rw [h.sz]; decide))]; exact set_two (x := .string ⟨#[]⟩) (y := .string ⟨#[]⟩) hc rfl rfl⟩, fun g => by obtain ⟨Z, e, hz, hcz⟩ := h.h7 (on_set g (by decide)); exact ⟨Z, e, hz, by rw [cel_set (by decide), heap_two (fun c => by subst c; exact hne e)]; exact hcz⟩, fun g g' => h.ne (on_set g (by decide)) (on_set g' (by decide)), fun _ => by unfold on; rw [on_eq (by decide)]; exact g0, fun g => by unfold on; rw [on_eq (by decide)]; exact h.d9 (on_set g (by decide))⟩
theorem Pv.t9 {X : Nat} (h : Pv wr A B kk P1 Q1 P2 Q2 L w s9 (.pointer (some ⟨X, 0, none⟩)) s18 s19 s20 s21 s22 s23) (hx : wr.heap.size ≤ X) (hc : w.heap[X]? = some (.cells #[.string ⟨#[]⟩, .string ⟨#[]⟩] 51 (0, 0))) (g0 : on L 7) (hne : ¬ s9 = .pointer (some ⟨X, 0, none⟩)) :
    Pv wr A B kk P1 Q1 P2 Q2 (L.setIfInBounds 9 true) ((w.setCell ⟨X, 0, none⟩ (.string P2)).setCell ⟨X, 1, none⟩ (.string Q2)) s9 (.pointer (some ⟨X, 0, none⟩)) s18 s19 s20 s21 s22 s23 :=
  ⟨by simp [h.sz], fun g => h.h0 (on_set g (by decide)), fun g => h.h1 (on_set g (by decide)), fun g => h.h2 (on_set g (by decide)), fun g => h.h3 (on_set g (by decide)), fun g => h.h4 (on_set g (by decide)), fun g => h.h5 (on_set g (by decide)), bl_set (bl_set h.bl hx _) hx _, fun g => by obtain ⟨Z, e, hz, hcz⟩ := h.h6 (on_set g (by decide)); exact ⟨Z, e, hz, by rw [cel_set (by decide), heap_two (fun c => by subst c; exact hne e)]; exact hcz⟩, fun g => ⟨X, rfl, hx, by rw [cel_on (on_self (by rw [h.sz]; decide))]; exact set_two (x := .string ⟨#[]⟩) (y := .string ⟨#[]⟩) hc rfl rfl⟩, fun g g' => h.ne (on_set g (by decide)) (on_set g' (by decide)), fun g => by unfold on; rw [on_eq (by decide)]; exact h.d8 (on_set g (by decide)), fun _ => by unfold on; rw [on_eq (by decide)]; exact g0⟩
end
end Go.Proofs.YtjkobbpebnkimaaGreatDoor.Tn
