/-
  TWO APPENDS IN ONE STATEMENT, A NODE MORE: what stands while the steps of a drawn region are under way. Conditions: each theorem's own.
-/
import Derived.Test.YtadgnafafdfioaaDoorGi
namespace Go.Proofs.YtadgnafafdfioaaDoor.Gr
open Go.Proofs.YtadgnafafdfioaaDoor.Rd
set_option maxRecDepth 100000
open Go.RowKit
set_option linter.unusedVariables false
set_option linter.unusedSimpArgs false

/-- one node in a slice that is made -/
def On1 (nc : List Value) (v : World) (s : Value) : Prop := ∃ g, s = .slice (some ⟨g, 0, none⟩) 1 1 ∧ v.heap[g]? = some (.cells nc.toArray 30 (0, 0))
theorem On1.keep {nc : List Value} {v v' : World} {s : Value} (h : On1 nc v s) (hn : nc ≠ []) (k : Kp v v') : On1 nc v' s := by
  obtain ⟨g, h1, h2⟩ := h
  exact ⟨g, h1, k _ _ h2 (by intro c; simp at c; exact hn c)⟩
/-- a graph that is made -/
def Pl (B : Nat) (v : World) (s : Value) : Prop := ∃ p, s = .pointer (some ⟨p, 0, none⟩) ∧ B ≤ p ∧ v.heap[p]? = some (.cells #[.slice none 0 0, .int .i64 0] 24 (0, 0))
theorem Pl.keep {B : Nat} {v v' : World} {s : Value} (h : Pl B v s) (k : ∀ (p : Nat) (o : Obj), v.heap[p]? = some o → (∀ c, o ≠ .cells c 30 (0, 0)) → v'.heap[p]? = some o) : Pl B v' s := by
  obtain ⟨p, h1, hB, h2⟩ := h
  exact ⟨p, h1, hB, k _ _ h2 (by intro c e; cases e)⟩
/-- what stands while the steps are under way -/
structure Aq (w5 : World) (B G : Nat) (S : Value) (us : List Value) (n : Nat) (nc : List Value) (loss : Int) (L : Array Bool) (v : World) (s0 s1 s2 s3 s4 s5 s6 s7 s8 s9 s10 : Value) : Prop where
  sz : L.size = 11
  ne : nc ≠ []
  bl : Below B w5 v
  h0 : on L 0 → ¬ on L 6 → E0 B v s0 (¬ on L 3)
  h1 : on L 1 → s1 = .pointer (some ⟨G, 0, none⟩)
  h2 : on L 2 → s2 = S
  h3 : on L 3 → ¬ on L 6 → v.ownsRow B 30 8 s3 n us
  h4 : on L 4 → s4 = .agg nc.toArray
  h5 : on L 5 → ¬ on L 6 → On1 nc v s5
  h6 : on L 6 → on L 3 ∧ v.ownsRow B 30 8 s6 (n + 1) (us ++ nc)
  h7 : on L 7 → s7 = .pointer (some ⟨G, 1, none⟩)
  h8 : on L 8 → s8 = .int .i64 loss
  h9 : on L 9 → on L 6 ∧ s9 = .agg #[s6, .int .i64 loss]
  h10 : on L 10 → Pl B v s10
section
variable {w5 : World} {B G : Nat} {S : Value} {us : List Value} {n : Nat} {nc : List Value} {loss : Int} {L : Array Bool} {v v' : World} {s0 s1 s2 s3 s4 s5 s6 s7 s8 s9 s10 x : Value}
theorem Aq.t0 (h : Aq w5 B G S us n nc loss L v s0 s1 s2 s3 s4 s5 s6 s7 s8 s9 s10) (hx : E0 B v' x (¬ on (L.setIfInBounds 0 true) 3)) (hb : Below v.heap.size v v') (hB : B ≤ v.heap.size) : Aq w5 B G S us n nc loss (L.setIfInBounds 0 true) v' x s1 s2 s3 s4 s5 s6 s7 s8 s9 s10 :=
  ⟨by simp [h.sz], h.ne, h.bl.trans (hb.mono hB), fun _ _ => hx, fun g => h.h1 (on_set g (by decide)), fun g => h.h2 (on_set g (by decide)), fun g n6 => Lx.own_below (h.h3 (on_set g (by decide)) (fun c => n6 (on_up c))) hb, fun g => h.h4 (on_set g (by decide)), fun g n6 => (h.h5 (on_set g (by decide)) (fun c => n6 (on_up c))).keep h.ne (Kp.of hb), fun g => ⟨on_up (h.h6 (on_set g (by decide))).1, Lx.own_below (h.h6 (on_set g (by decide))).2 hb⟩, fun g => h.h7 (on_set g (by decide)), fun g => h.h8 (on_set g (by decide)), fun g => ⟨on_up (h.h9 (on_set g (by decide))).1, (h.h9 (on_set g (by decide))).2⟩, fun g => (h.h10 (on_set g (by decide))).keep fun p o q _ => kp_below hb q⟩
theorem Aq.t1 (h : Aq w5 B G S us n nc loss L v s0 s1 s2 s3 s4 s5 s6 s7 s8 s9 s10)  : Aq w5 B G S us n nc loss (L.setIfInBounds 1 true) v s0 (.pointer (some ⟨G, 0, none⟩)) s2 s3 s4 s5 s6 s7 s8 s9 s10 :=
  ⟨by simp [h.sz], h.ne, h.bl, fun g n6 => (h.h0 (on_set g (by decide)) (fun c => n6 (on_up c))).below (Below.refl _ _) (fun c e => c (on_up e)), fun _ => rfl, fun g => h.h2 (on_set g (by decide)), fun g n6 => (h.h3 (on_set g (by decide)) (fun c => n6 (on_up c))), fun g => h.h4 (on_set g (by decide)), fun g n6 => (h.h5 (on_set g (by decide)) (fun c => n6 (on_up c))), fun g => ⟨on_up (h.h6 (on_set g (by decide))).1, (h.h6 (on_set g (by decide))).2⟩, fun g => h.h7 (on_set g (by decide)), fun g => h.h8 (on_set g (by decide)), fun g => ⟨on_up (h.h9 (on_set g (by decide))).1, (h.h9 (on_set g (by decide))).2⟩, fun g => h.h10 (on_set g (by decide))⟩
theorem Aq.t2 (h : Aq w5 B G S us n nc loss L v s0 s1 s2 s3 s4 s5 s6 s7 s8 s9 s10)  : Aq w5 B G S us n nc loss (L.setIfInBounds 2 true) v s0 s1 S s3 s4 s5 s6 s7 s8 s9 s10 :=
  ⟨by simp [h.sz], h.ne, h.bl, fun g n6 => (h.h0 (on_set g (by decide)) (fun c => n6 (on_up c))).below (Below.refl _ _) (fun c e => c (on_up e)), fun g => h.h1 (on_set g (by decide)), fun _ => rfl, fun g n6 => (h.h3 (on_set g (by decide)) (fun c => n6 (on_up c))), fun g => h.h4 (on_set g (by decide)), fun g n6 => (h.h5 (on_set g (by decide)) (fun c => n6 (on_up c))), fun g => ⟨on_up (h.h6 (on_set g (by decide))).1, (h.h6 (on_set g (by decide))).2⟩, fun g => h.h7 (on_set g (by decide)), fun g => h.h8 (on_set g (by decide)), fun g => ⟨on_up (h.h9 (on_set g (by decide))).1, (h.h9 (on_set g (by decide))).2⟩, fun g => h.h10 (on_set g (by decide))⟩
theorem Aq.t3 (h : Aq w5 B G S us n nc loss L v s0 s1 s2 s3 s4 s5 s6 s7 s8 s9 s10) (hx : v'.ownsRow B 30 8 x n us) (hbb : Below B w5 v') (hk : Kp v v') (hn : ¬ on L 3) : Aq w5 B G S us n nc loss (L.setIfInBounds 3 true) v' s0 s1 s2 x s4 s5 s6 s7 s8 s9 s10 :=
  ⟨by simp [h.sz], h.ne, hbb, fun g n6 => by obtain ⟨y, h1, h2, h3⟩ := (h.h0 (on_set g (by decide)) (fun c => n6 (on_up c))); exact ⟨y, h1, h2, fun c => absurd (on_self (by rw [h.sz]; decide)) c⟩, fun g => h.h1 (on_set g (by decide)), fun g => h.h2 (on_set g (by decide)), fun _ _ => hx, fun g => h.h4 (on_set g (by decide)), fun g n6 => (h.h5 (on_set g (by decide)) (fun c => n6 (on_up c))).keep h.ne hk, fun g => absurd (h.h6 (on_set g (by decide))).1 hn, fun g => h.h7 (on_set g (by decide)), fun g => h.h8 (on_set g (by decide)), fun g => ⟨on_up (h.h9 (on_set g (by decide))).1, (h.h9 (on_set g (by decide))).2⟩, fun g => (h.h10 (on_set g (by decide))).keep fun p o q e => hk p o q (e _)⟩
theorem Aq.t4 (h : Aq w5 B G S us n nc loss L v s0 s1 s2 s3 s4 s5 s6 s7 s8 s9 s10)  : Aq w5 B G S us n nc loss (L.setIfInBounds 4 true) v s0 s1 s2 s3 (.agg nc.toArray) s5 s6 s7 s8 s9 s10 :=
  ⟨by simp [h.sz], h.ne, h.bl, fun g n6 => (h.h0 (on_set g (by decide)) (fun c => n6 (on_up c))).below (Below.refl _ _) (fun c e => c (on_up e)), fun g => h.h1 (on_set g (by decide)), fun g => h.h2 (on_set g (by decide)), fun g n6 => (h.h3 (on_set g (by decide)) (fun c => n6 (on_up c))), fun _ => rfl, fun g n6 => (h.h5 (on_set g (by decide)) (fun c => n6 (on_up c))), fun g => ⟨on_up (h.h6 (on_set g (by decide))).1, (h.h6 (on_set g (by decide))).2⟩, fun g => h.h7 (on_set g (by decide)), fun g => h.h8 (on_set g (by decide)), fun g => ⟨on_up (h.h9 (on_set g (by decide))).1, (h.h9 (on_set g (by decide))).2⟩, fun g => h.h10 (on_set g (by decide))⟩
theorem Aq.t5 (h : Aq w5 B G S us n nc loss L v s0 s1 s2 s3 s4 s5 s6 s7 s8 s9 s10) (hx : On1 nc v' x) (hb : Below v.heap.size v v') (hB : B ≤ v.heap.size) : Aq w5 B G S us n nc loss (L.setIfInBounds 5 true) v' s0 s1 s2 s3 s4 x s6 s7 s8 s9 s10 :=
  ⟨by simp [h.sz], h.ne, h.bl.trans (hb.mono hB), fun g n6 => (h.h0 (on_set g (by decide)) (fun c => n6 (on_up c))).below hb (fun c e => c (on_up e)), fun g => h.h1 (on_set g (by decide)), fun g => h.h2 (on_set g (by decide)), fun g n6 => Lx.own_below (h.h3 (on_set g (by decide)) (fun c => n6 (on_up c))) hb, fun g => h.h4 (on_set g (by decide)), fun _ _ => hx, fun g => ⟨on_up (h.h6 (on_set g (by decide))).1, Lx.own_below (h.h6 (on_set g (by decide))).2 hb⟩, fun g => h.h7 (on_set g (by decide)), fun g => h.h8 (on_set g (by decide)), fun g => ⟨on_up (h.h9 (on_set g (by decide))).1, (h.h9 (on_set g (by decide))).2⟩, fun g => (h.h10 (on_set g (by decide))).keep fun p o q _ => kp_below hb q⟩
theorem Aq.t6 (h : Aq w5 B G S us n nc loss L v s0 s1 s2 s3 s4 s5 s6 s7 s8 s9 s10) (hx : v'.ownsRow B 30 8 x (n + 1) (us ++ nc)) (hbb : Below B w5 v') (hk : ∀ (p : Nat) (o : Obj), v.heap[p]? = some o → (∀ c, o ≠ .cells c 30 (0, 0)) → v'.heap[p]? = some o) (hn : ¬ on L 6) (h3 : on L 3) : Aq w5 B G S us n nc loss (L.setIfInBounds 6 true) v' s0 s1 s2 s3 s4 s5 x s7 s8 s9 s10 :=
  ⟨by simp [h.sz], h.ne, hbb, fun g n6 => absurd (on_self (by rw [h.sz]; decide)) n6, fun g => h.h1 (on_set g (by decide)), fun g => h.h2 (on_set g (by decide)), fun g n6 => absurd (on_self (by rw [h.sz]; decide)) n6, fun g => h.h4 (on_set g (by decide)), fun g n6 => absurd (on_self (by rw [h.sz]; decide)) n6, fun _ => ⟨on_up h3, hx⟩, fun g => h.h7 (on_set g (by decide)), fun g => h.h8 (on_set g (by decide)), fun g => absurd (h.h9 (on_set g (by decide))).1 hn, fun g => (h.h10 (on_set g (by decide))).keep hk⟩
theorem Aq.t7 (h : Aq w5 B G S us n nc loss L v s0 s1 s2 s3 s4 s5 s6 s7 s8 s9 s10)  : Aq w5 B G S us n nc loss (L.setIfInBounds 7 true) v s0 s1 s2 s3 s4 s5 s6 (.pointer (some ⟨G, 1, none⟩)) s8 s9 s10 :=
  ⟨by simp [h.sz], h.ne, h.bl, fun g n6 => (h.h0 (on_set g (by decide)) (fun c => n6 (on_up c))).below (Below.refl _ _) (fun c e => c (on_up e)), fun g => h.h1 (on_set g (by decide)), fun g => h.h2 (on_set g (by decide)), fun g n6 => (h.h3 (on_set g (by decide)) (fun c => n6 (on_up c))), fun g => h.h4 (on_set g (by decide)), fun g n6 => (h.h5 (on_set g (by decide)) (fun c => n6 (on_up c))), fun g => ⟨on_up (h.h6 (on_set g (by decide))).1, (h.h6 (on_set g (by decide))).2⟩, fun _ => rfl, fun g => h.h8 (on_set g (by decide)), fun g => ⟨on_up (h.h9 (on_set g (by decide))).1, (h.h9 (on_set g (by decide))).2⟩, fun g => h.h10 (on_set g (by decide))⟩
theorem Aq.t8 (h : Aq w5 B G S us n nc loss L v s0 s1 s2 s3 s4 s5 s6 s7 s8 s9 s10)  : Aq w5 B G S us n nc loss (L.setIfInBounds 8 true) v s0 s1 s2 s3 s4 s5 s6 s7 (.int .i64 loss) s9 s10 :=
  ⟨by simp [h.sz], h.ne, h.bl, fun g n6 => (h.h0 (on_set g (by decide)) (fun c => n6 (on_up c))).below (Below.refl _ _) (fun c e => c (on_up e)), fun g => h.h1 (on_set g (by decide)), fun g => h.h2 (on_set g (by decide)), fun g n6 => (h.h3 (on_set g (by decide)) (fun c => n6 (on_up c))), fun g => h.h4 (on_set g (by decide)), fun g n6 => (h.h5 (on_set g (by decide)) (fun c => n6 (on_up c))), fun g => ⟨on_up (h.h6 (on_set g (by decide))).1, (h.h6 (on_set g (by decide))).2⟩, fun g => h.h7 (on_set g (by decide)), fun _ => rfl, fun g => ⟨on_up (h.h9 (on_set g (by decide))).1, (h.h9 (on_set g (by decide))).2⟩, fun g => h.h10 (on_set g (by decide))⟩
theorem Aq.t9 (h : Aq w5 B G S us n nc loss L v s0 s1 s2 s3 s4 s5 s6 s7 s8 s9 s10) (h6 : on L 6) : Aq w5 B G S us n nc loss (L.setIfInBounds 9 true) v s0 s1 s2 s3 s4 s5 s6 s7 s8 (.agg #[s6, .int .i64 loss]) s10 :=
  ⟨by simp [h.sz], h.ne, h.bl, fun g n6 => (h.h0 (on_set g (by decide)) (fun c => n6 (on_up c))).below (Below.refl _ _) (fun c e => c (on_up e)), fun g => h.h1 (on_set g (by decide)), fun g => h.h2 (on_set g (by decide)), fun g n6 => (h.h3 (on_set g (by decide)) (fun c => n6 (on_up c))), fun g => h.h4 (on_set g (by decide)), fun g n6 => (h.h5 (on_set g (by decide)) (fun c => n6 (on_up c))), fun g => ⟨on_up (h.h6 (on_set g (by decide))).1, (h.h6 (on_set g (by decide))).2⟩, fun g => h.h7 (on_set g (by decide)), fun g => h.h8 (on_set g (by decide)), fun _ => ⟨on_up h6, rfl⟩, fun g => h.h10 (on_set g (by decide))⟩
theorem Aq.t10 (h : Aq w5 B G S us n nc loss L v s0 s1 s2 s3 s4 s5 s6 s7 s8 s9 s10) (hx : Pl B v' x) (hb : Below v.heap.size v v') (hB : B ≤ v.heap.size) : Aq w5 B G S us n nc loss (L.setIfInBounds 10 true) v' s0 s1 s2 s3 s4 s5 s6 s7 s8 s9 x :=
  ⟨by simp [h.sz], h.ne, h.bl.trans (hb.mono hB), fun g n6 => (h.h0 (on_set g (by decide)) (fun c => n6 (on_up c))).below hb (fun c e => c (on_up e)), fun g => h.h1 (on_set g (by decide)), fun g => h.h2 (on_set g (by decide)), fun g n6 => Lx.own_below (h.h3 (on_set g (by decide)) (fun c => n6 (on_up c))) hb, fun g => h.h4 (on_set g (by decide)), fun g n6 => (h.h5 (on_set g (by decide)) (fun c => n6 (on_up c))).keep h.ne (Kp.of hb), fun g => ⟨on_up (h.h6 (on_set g (by decide))).1, Lx.own_below (h.h6 (on_set g (by decide))).2 hb⟩, fun g => h.h7 (on_set g (by decide)), fun g => h.h8 (on_set g (by decide)), fun g => ⟨on_up (h.h9 (on_set g (by decide))).1, (h.h9 (on_set g (by decide))).2⟩, fun _ => hx⟩
theorem Aq.start (L : Array Bool) (hL : L = Array.replicate 11 false) (hn : nc ≠ []) (v : World) (hb : Below B w5 v) (s0 s1 s2 s3 s4 s5 s6 s7 s8 s9 s10 : Value) : Aq w5 B G S us n nc loss L v s0 s1 s2 s3 s4 s5 s6 s7 s8 s9 s10 := by
  subst hL
  exact ⟨by simp, hn, hb, fun g _ => absurd g (by simp [on]), fun g => absurd g (by simp [on]), fun g => absurd g (by simp [on]), fun g _ => absurd g (by simp [on]), fun g => absurd g (by simp [on]), fun g _ => absurd g (by simp [on]), fun g => absurd g (by simp [on]), fun g => absurd g (by simp [on]), fun g => absurd g (by simp [on]), fun g => absurd g (by simp [on]), fun g => absurd g (by simp [on])⟩
end
/-- one store, as growth of its block alone -/
theorem grown_cell (w : World) (p : Addr) (x : Value) : w.grownBy (w.setCell p x) (some p.block) := ⟨rfl, rfl, rfl, by simp, fun k _ hk => heap_setCell_other w p k x (fun e => hk (by simp [e]))⟩
theorem own_set {w : World} {base e size n : Nat} {v : Value} {xs : List Value} (h : w.ownsRow base e size v n xs) {p : Addr} (hp : p.block < base) (x : Value) : (w.setCell p x).ownsRow base e size v n xs := by
  refine h.kept (grown_cell w p x) ?_
  cases hv : v.ownBlock with
  | none => exact Or.inl rfl
  | some k =>
    right
    intro e
    have := (h.lt k hv).1
    cases e
    omega
theorem own_cell {w : World} {b e s n D : Nat} {v : Value} {xs : List Value} {o : Obj} (h : w.ownsRow b e s v n xs) (hD : w.heap[D]? = some o) (ho : ∀ c, o ≠ .cells c e (0, 0)) (k : Nat) (x : Value) : (w.setCell ⟨D, k, none⟩ x).ownsRow b e s v n xs := h.kept (grown_cell w _ x) (own_off h hD ho)
/-- nodes with one more, as they are read -/
theorem more_nl {w v : World} {B c6 : Nat} {a6 : Option Addr} {us nc : List Value} {l : List Nd} {nd : Nd} (hcp : Cp w us l) (hw : Below w.heap.size w v) (hnc : Nc v nc nd) (ho : v.ownsRow B 30 8 (.slice a6 (l.length + 1) c6) (l.length + 1) (us ++ nc)) : Nl v a6 (l ++ [nd]) :=
  ((hcp.below hw).snoc hnc).nl (by simpa using ho)
theorem kp_own {v v' : World} {B n c : Nat} {ao : Option Addr} {xs : List Value} (ho : v.ownsRow B 30 8 (.slice ao n c) n xs) (hg : v.grownBy v' (Value.slice ao n c).ownBlock) : ∀ (p : Nat) (o : Obj), v.heap[p]? = some o → (∀ c, o ≠ .cells c 30 (0, 0)) → v'.heap[p]? = some o := fun p o hp hne => by
  have h := own_off ho hp hne
  rw [hg.block p (Array.getElem?_eq_some_iff.1 hp).1 (by rcases h with e | e <;> simp [e]; exact fun c => e c.symm)]
  exact hp
end Go.Proofs.YtadgnafafdfioaaDoor.Gr
