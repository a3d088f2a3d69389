/-
  TWO APPENDS IN ONE STATEMENT: what stands while the steps of a drawn region are under way. Conditions: each theorem's own.
-/
import Derived.Test.YtadgnafafdfioaaDoorGh
import Derived.Test.YtadgnafafdfioaaDoorB4
namespace Go.Proofs.YtadgnafafdfioaaDoor.Gr
open Go.Proofs.YtadgnafafdfioaaDoor.Rd
set_option maxRecDepth 100000
open Go.RowKit
set_option linter.unusedVariables false
set_option linter.unusedSimpArgs false

abbrev Kp (v v' : World) : Prop := ∀ (k : Nat) (o : Obj), v.heap[k]? = some o → o ≠ .cells #[] 30 (0, 0) → v'.heap[k]? = some o
theorem kp_below {v v' : World} (hb : Below v.heap.size v v') {k : Nat} {o : Obj} (h : v.heap[k]? = some o) : v'.heap[k]? = some o := by
  rw [hb.block k (Array.getElem?_eq_some_iff.1 h).1]; exact h
theorem Kp.of {v v' : World} (hb : Below v.heap.size v v') : Kp v v' := fun k o h _ => kp_below hb h
theorem Kp.grown {v v' : World} {g : Nat} {ao : Option Addr} {n c : Nat} (hg : v.grownBy v' (Value.slice ao n c).ownBlock) (ho : (Value.slice ao n c).ownBlock = none ∨ (Value.slice ao n c).ownBlock = some g) (h0 : v.heap[g]? = some (.cells #[] 30 (0, 0))) : Kp v v' := fun k o h hne => by
  have hk := (Array.getElem?_eq_some_iff.1 h).1
  rw [hg.block k hk]
  · exact h
  · rcases ho with e | e
    · rw [e]; exact fun c => by cases c
    · rw [e]
      intro c
      cases c
      rw [h0] at h
      exact hne (Option.some.inj h).symm
/-- an empty slice that is made -/
def E0 (B : Nat) (v : World) (s : Value) (p : Prop) : Prop := ∃ g, s = .slice (some ⟨g, 0, none⟩) 0 0 ∧ B ≤ g ∧ (p → v.heap[g]? = some (.cells #[] 30 (0, 0)))
theorem E0.below {B : Nat} {v v' : World} {s : Value} {p q : Prop} (h : E0 B v s p) (hb : Below v.heap.size v v') (hq : q → p) : E0 B v' s q := by
  obtain ⟨g, h1, h2, h3⟩ := h
  exact ⟨g, h1, h2, fun c => kp_below hb (h3 (hq c))⟩
def One (v : World) (s : Value) : Prop := ∃ g, s = .slice (some ⟨g, 0, none⟩) 1 1 ∧ v.heap[g]? = some (.cells #[.int .i64 1] 3 (0, 0))
theorem One.keep {v v' : World} {s : Value} (h : One v s) (k : Kp v v') : One v' s := by
  obtain ⟨g, h1, h2⟩ := h
  exact ⟨g, h1, k _ _ h2 (by intro c; cases c)⟩
def Nod (nm : ByteArray) (v : World) (s : Value) : Prop := ∃ g, s = .agg #[.string ⟨#[112, 97, 114, 97, 109]⟩, .int .i64 0, .int .i64 0, .string nm, .slice (some ⟨g, 0, none⟩) 1 1, .string ⟨#[]⟩, .int .i64 0, .slice none 0 0] ∧ v.heap[g]? = some (.cells #[.int .i64 1] 3 (0, 0))
theorem Nod.keep {nm : ByteArray} {v v' : World} {s : Value} (h : Nod nm v s) (k : Kp v v') : Nod nm v' s := by
  obtain ⟨g, h1, h2⟩ := h
  exact ⟨g, h1, k _ _ h2 (by intro c; cases c)⟩
def Sno (nm : ByteArray) (v : World) (s : Value) : Prop := ∃ g1 g, s = .slice (some ⟨g1, 0, none⟩) 1 1 ∧ v.heap[g1]? = some (.cells #[.string ⟨#[112, 97, 114, 97, 109]⟩, .int .i64 0, .int .i64 0, .string nm, .slice (some ⟨g, 0, none⟩) 1 1, .string ⟨#[]⟩, .int .i64 0, .slice none 0 0] 30 (0, 0)) ∧ v.heap[g]? = some (.cells #[.int .i64 1] 3 (0, 0))
theorem Sno.keep {nm : ByteArray} {v v' : World} {s : Value} (h : Sno nm v s) (k : Kp v v') : Sno nm v' s := by
  obtain ⟨g1, g, h1, h2, h3⟩ := h
  exact ⟨g1, g, h1, k _ _ h2 (by intro c; cases c), k _ _ h3 (by intro c; cases c)⟩

/-- what stands while the steps are under way -/
structure Ap (w5 : World) (B G : Nat) (S : Value) (us : List Value) (n i b off : Nat) (nm : ByteArray) (L : Array Bool) (v : World) (s45 s46 s47 s48 s49 s50 s51 s52 s53 s54 s55 s56 s57 : Value) : Prop where
  sz : L.size = 13
  bl : Below B w5 v
  h0 : on L 0 → E0 B v s45 (¬ on L 3)
  h1 : on L 1 → s46 = .pointer (some ⟨G, 0, none⟩)
  h2 : on L 2 → s47 = S
  h3 : on L 3 → v.ownsRow B 30 8 s48 n us
  h4 : on L 4 → s49 = .pointer (some ⟨G, 0, none⟩)
  h5 : on L 5 → s50 = S
  h6 : on L 6 → s51 = .int .i64 (i : Int)
  h7 : on L 7 → s52 = .pointer (some ⟨b, off + i * 8, none⟩)
  h8 : on L 8 → s53 = .pointer (some ⟨b, off + i * 8 + 3, none⟩)
  h9 : on L 9 → s54 = .string nm
  h10 : on L 10 → One v s55
  h11 : on L 11 → Nod nm v s56
  h12 : on L 12 → Sno nm v s57
section
variable {w5 : World} {B G : Nat} {S : Value} {us : List Value} {n i b off : Nat} {nm : ByteArray} {L : Array Bool} {v v' : World} {s45 s46 s47 s48 s49 s50 s51 s52 s53 s54 s55 s56 s57 x : Value}
theorem Ap.t0 (h : Ap w5 B G S us n i b off nm L v s45 s46 s47 s48 s49 s50 s51 s52 s53 s54 s55 s56 s57) (hx : E0 B v' x (¬ on (L.setIfInBounds 0 true) 3)) (hb : Below v.heap.size v v') (hB : B ≤ v.heap.size) : Ap w5 B G S us n i b off nm (L.setIfInBounds 0 true) v' x s46 s47 s48 s49 s50 s51 s52 s53 s54 s55 s56 s57 :=
  ⟨by simp [h.sz], h.bl.trans (hb.mono hB), fun _ => hx, fun g => h.h1 (on_set g (by decide)), fun g => h.h2 (on_set g (by decide)), fun g => Lx.own_below (h.h3 (on_set g (by decide))) hb, fun g => h.h4 (on_set g (by decide)), fun g => h.h5 (on_set g (by decide)), fun g => h.h6 (on_set g (by decide)), fun g => h.h7 (on_set g (by decide)), fun g => h.h8 (on_set g (by decide)), fun g => h.h9 (on_set g (by decide)), fun g => (h.h10 (on_set g (by decide))).keep (Kp.of hb), fun g => (h.h11 (on_set g (by decide))).keep (Kp.of hb), fun g => (h.h12 (on_set g (by decide))).keep (Kp.of hb)⟩
theorem Ap.t1 (h : Ap w5 B G S us n i b off nm L v s45 s46 s47 s48 s49 s50 s51 s52 s53 s54 s55 s56 s57) : Ap w5 B G S us n i b off nm (L.setIfInBounds 1 true) v s45 (.pointer (some ⟨G, 0, none⟩)) s47 s48 s49 s50 s51 s52 s53 s54 s55 s56 s57 :=
  ⟨by simp [h.sz], h.bl, fun g => by obtain ⟨y, h1, h2, h3⟩ := h.h0 (on_set g (by decide)); exact ⟨y, h1, h2, fun c => h3 fun e => c (on_up e)⟩, fun _ => rfl, fun g => h.h2 (on_set g (by decide)), fun g => h.h3 (on_set g (by decide)), fun g => h.h4 (on_set g (by decide)), fun g => h.h5 (on_set g (by decide)), fun g => h.h6 (on_set g (by decide)), fun g => h.h7 (on_set g (by decide)), fun g => h.h8 (on_set g (by decide)), fun g => h.h9 (on_set g (by decide)), fun g => h.h10 (on_set g (by decide)), fun g => h.h11 (on_set g (by decide)), fun g => h.h12 (on_set g (by decide))⟩
theorem Ap.t2 (h : Ap w5 B G S us n i b off nm L v s45 s46 s47 s48 s49 s50 s51 s52 s53 s54 s55 s56 s57) : Ap w5 B G S us n i b off nm (L.setIfInBounds 2 true) v s45 s46 (S) s48 s49 s50 s51 s52 s53 s54 s55 s56 s57 :=
  ⟨by simp [h.sz], h.bl, fun g => by obtain ⟨y, h1, h2, h3⟩ := h.h0 (on_set g (by decide)); exact ⟨y, h1, h2, fun c => h3 fun e => c (on_up e)⟩, fun g => h.h1 (on_set g (by decide)), fun _ => rfl, fun g => h.h3 (on_set g (by decide)), fun g => h.h4 (on_set g (by decide)), fun g => h.h5 (on_set g (by decide)), fun g => h.h6 (on_set g (by decide)), fun g => h.h7 (on_set g (by decide)), fun g => h.h8 (on_set g (by decide)), fun g => h.h9 (on_set g (by decide)), fun g => h.h10 (on_set g (by decide)), fun g => h.h11 (on_set g (by decide)), fun g => h.h12 (on_set g (by decide))⟩
theorem Ap.t3 (h : Ap w5 B G S us n i b off nm L v s45 s46 s47 s48 s49 s50 s51 s52 s53 s54 s55 s56 s57) (hx : v'.ownsRow B 30 8 x n us) (hbb : Below B w5 v') (hk : Kp v v') : Ap w5 B G S us n i b off nm (L.setIfInBounds 3 true) v' s45 s46 s47 x s49 s50 s51 s52 s53 s54 s55 s56 s57 :=
  ⟨by simp [h.sz], hbb, fun g => by obtain ⟨y, h1, h2, h3⟩ := h.h0 (on_set g (by decide)); exact ⟨y, h1, h2, fun c => absurd (on_self (by rw [h.sz]; decide)) c⟩, fun g => h.h1 (on_set g (by decide)), fun g => h.h2 (on_set g (by decide)), fun _ => hx, fun g => h.h4 (on_set g (by decide)), fun g => h.h5 (on_set g (by decide)), fun g => h.h6 (on_set g (by decide)), fun g => h.h7 (on_set g (by decide)), fun g => h.h8 (on_set g (by decide)), fun g => h.h9 (on_set g (by decide)), fun g => (h.h10 (on_set g (by decide))).keep hk, fun g => (h.h11 (on_set g (by decide))).keep hk, fun g => (h.h12 (on_set g (by decide))).keep hk⟩
theorem Ap.t4 (h : Ap w5 B G S us n i b off nm L v s45 s46 s47 s48 s49 s50 s51 s52 s53 s54 s55 s56 s57) : Ap w5 B G S us n i b off nm (L.setIfInBounds 4 true) v s45 s46 s47 s48 (.pointer (some ⟨G, 0, none⟩)) s50 s51 s52 s53 s54 s55 s56 s57 :=
  ⟨by simp [h.sz], h.bl, fun g => by obtain ⟨y, h1, h2, h3⟩ := h.h0 (on_set g (by decide)); exact ⟨y, h1, h2, fun c => h3 fun e => c (on_up e)⟩, fun g => h.h1 (on_set g (by decide)), fun g => h.h2 (on_set g (by decide)), fun g => h.h3 (on_set g (by decide)), fun _ => rfl, fun g => h.h5 (on_set g (by decide)), fun g => h.h6 (on_set g (by decide)), fun g => h.h7 (on_set g (by decide)), fun g => h.h8 (on_set g (by decide)), fun g => h.h9 (on_set g (by decide)), fun g => h.h10 (on_set g (by decide)), fun g => h.h11 (on_set g (by decide)), fun g => h.h12 (on_set g (by decide))⟩
theorem Ap.t5 (h : Ap w5 B G S us n i b off nm L v s45 s46 s47 s48 s49 s50 s51 s52 s53 s54 s55 s56 s57) : Ap w5 B G S us n i b off nm (L.setIfInBounds 5 true) v s45 s46 s47 s48 s49 (S) s51 s52 s53 s54 s55 s56 s57 :=
  ⟨by simp [h.sz], h.bl, fun g => by obtain ⟨y, h1, h2, h3⟩ := h.h0 (on_set g (by decide)); exact ⟨y, h1, h2, fun c => h3 fun e => c (on_up e)⟩, fun g => h.h1 (on_set g (by decide)), fun g => h.h2 (on_set g (by decide)), fun g => h.h3 (on_set g (by decide)), fun g => h.h4 (on_set g (by decide)), fun _ => rfl, fun g => h.h6 (on_set g (by decide)), fun g => h.h7 (on_set g (by decide)), fun g => h.h8 (on_set g (by decide)), fun g => h.h9 (on_set g (by decide)), fun g => h.h10 (on_set g (by decide)), fun g => h.h11 (on_set g (by decide)), fun g => h.h12 (on_set g (by decide))⟩
theorem Ap.t6 (h : Ap w5 B G S us n i b off nm L v s45 s46 s47 s48 s49 s50 s51 s52 s53 s54 s55 s56 s57) : Ap w5 B G S us n i b off nm (L.setIfInBounds 6 true) v s45 s46 s47 s48 s49 s50 (.int .i64 (i : Int)) s52 s53 s54 s55 s56 s57 :=
  ⟨by simp [h.sz], h.bl, fun g => by obtain ⟨y, h1, h2, h3⟩ := h.h0 (on_set g (by decide)); exact ⟨y, h1, h2, fun c => h3 fun e => c (on_up e)⟩, fun g => h.h1 (on_set g (by decide)), fun g => h.h2 (on_set g (by decide)), fun g => h.h3 (on_set g (by decide)), fun g => h.h4 (on_set g (by decide)), fun g => h.h5 (on_set g (by decide)), fun _ => rfl, fun g => h.h7 (on_set g (by decide)), fun g => h.h8 (on_set g (by decide)), fun g => h.h9 (on_set g (by decide)), fun g => h.h10 (on_set g (by decide)), fun g => h.h11 (on_set g (by decide)), fun g => h.h12 (on_set g (by decide))⟩
theorem Ap.t7 (h : Ap w5 B G S us n i b off nm L v s45 s46 s47 s48 s49 s50 s51 s52 s53 s54 s55 s56 s57) : Ap w5 B G S us n i b off nm (L.setIfInBounds 7 true) v s45 s46 s47 s48 s49 s50 s51 (.pointer (some ⟨b, off + i * 8, none⟩)) s53 s54 s55 s56 s57 :=
  ⟨by simp [h.sz], h.bl, fun g => by obtain ⟨y, h1, h2, h3⟩ := h.h0 (on_set g (by decide)); exact ⟨y, h1, h2, fun c => h3 fun e => c (on_up e)⟩, fun g => h.h1 (on_set g (by decide)), fun g => h.h2 (on_set g (by decide)), fun g => h.h3 (on_set g (by decide)), fun g => h.h4 (on_set g (by decide)), fun g => h.h5 (on_set g (by decide)), fun g => h.h6 (on_set g (by decide)), fun _ => rfl, fun g => h.h8 (on_set g (by decide)), fun g => h.h9 (on_set g (by decide)), fun g => h.h10 (on_set g (by decide)), fun g => h.h11 (on_set g (by decide)), fun g => h.h12 (on_set g (by decide))⟩
theorem Ap.t8 (h : Ap w5 B G S us n i b off nm L v s45 s46 s47 s48 s49 s50 s51 s52 s53 s54 s55 s56 s57) : Ap w5 B G S us n i b off nm (L.setIfInBounds 8 true) v s45 s46 s47 s48 s49 s50 s51 s52 (.pointer (some ⟨b, off + i * 8 + 3, none⟩)) s54 s55 s56 s57 :=
  ⟨by simp [h.sz], h.bl, fun g => by obtain ⟨y, h1, h2, h3⟩ := h.h0 (on_set g (by decide)); exact ⟨y, h1, h2, fun c => h3 fun e => c (on_up e)⟩, fun g => h.h1 (on_set g (by decide)), fun g => h.h2 (on_set g (by decide)), fun g => h.h3 (on_set g (by decide)), fun g => h.h4 (on_set g (by decide)), fun g => h.h5 (on_set g (by decide)), fun g => h.h6 (on_set g (by decide)), fun g => h.h7 (on_set g (by decide)), fun _ => rfl, fun g => h.h9 (on_set g (by decide)), fun g => h.h10 (on_set g (by decide)), fun g => h.h11 (on_set g (by decide)), fun g => h.h12 (on_set g (by decide))⟩
theorem Ap.t9 (h : Ap w5 B G S us n i b off nm L v s45 s46 s47 s48 s49 s50 s51 s52 s53 s54 s55 s56 s57) : Ap w5 B G S us n i b off nm (L.setIfInBounds 9 true) v s45 s46 s47 s48 s49 s50 s51 s52 s53 (.string nm) s55 s56 s57 :=
  ⟨by simp [h.sz], h.bl, fun g => by obtain ⟨y, h1, h2, h3⟩ := h.h0 (on_set g (by decide)); exact ⟨y, h1, h2, fun c => h3 fun e => c (on_up e)⟩, fun g => h.h1 (on_set g (by decide)), fun g => h.h2 (on_set g (by decide)), fun g => h.h3 (on_set g (by decide)), fun g => h.h4 (on_set g (by decide)), fun g => h.h5 (on_set g (by decide)), fun g => h.h6 (on_set g (by decide)), fun g => h.h7 (on_set g (by decide)), fun g => h.h8 (on_set g (by decide)), fun _ => rfl, fun g => h.h10 (on_set g (by decide)), fun g => h.h11 (on_set g (by decide)), fun g => h.h12 (on_set g (by decide))⟩
theorem Ap.t10 (h : Ap w5 B G S us n i b off nm L v s45 s46 s47 s48 s49 s50 s51 s52 s53 s54 s55 s56 s57) (hx : One v' x) (hb : Below v.heap.size v v') (hB : B ≤ v.heap.size) : Ap w5 B G S us n i b off nm (L.setIfInBounds 10 true) v' s45 s46 s47 s48 s49 s50 s51 s52 s53 s54 x s56 s57 :=
  ⟨by simp [h.sz], h.bl.trans (hb.mono hB), fun g => (h.h0 (on_set g (by decide))).below hb (fun c e => c (on_up e)), fun g => h.h1 (on_set g (by decide)), fun g => h.h2 (on_set g (by decide)), fun g => Lx.own_below (h.h3 (on_set g (by decide))) hb, fun g => h.h4 (on_set g (by decide)), fun g => h.h5 (on_set g (by decide)), fun g => h.h6 (on_set g (by decide)), fun g => h.h7 (on_set g (by decide)), fun g => h.h8 (on_set g (by decide)), fun g => h.h9 (on_set g (by decide)), fun _ => hx, fun g => (h.h11 (on_set g (by decide))).keep (Kp.of hb), fun g => (h.h12 (on_set g (by decide))).keep (Kp.of hb)⟩
theorem Ap.t11 (h : Ap w5 B G S us n i b off nm L v s45 s46 s47 s48 s49 s50 s51 s52 s53 s54 s55 s56 s57) (hx : Nod nm v x) : Ap w5 B G S us n i b off nm (L.setIfInBounds 11 true) v s45 s46 s47 s48 s49 s50 s51 s52 s53 s54 s55 x s57 :=
  ⟨by simp [h.sz], h.bl, fun g => by obtain ⟨y, h1, h2, h3⟩ := h.h0 (on_set g (by decide)); exact ⟨y, h1, h2, fun c => h3 fun e => c (on_up e)⟩, fun g => h.h1 (on_set g (by decide)), fun g => h.h2 (on_set g (by decide)), fun g => h.h3 (on_set g (by decide)), fun g => h.h4 (on_set g (by decide)), fun g => h.h5 (on_set g (by decide)), fun g => h.h6 (on_set g (by decide)), fun g => h.h7 (on_set g (by decide)), fun g => h.h8 (on_set g (by decide)), fun g => h.h9 (on_set g (by decide)), fun g => h.h10 (on_set g (by decide)), fun _ => hx, fun g => h.h12 (on_set g (by decide))⟩
theorem Ap.t12 (h : Ap w5 B G S us n i b off nm L v s45 s46 s47 s48 s49 s50 s51 s52 s53 s54 s55 s56 s57) (hx : Sno nm v' x) (hb : Below v.heap.size v v') (hB : B ≤ v.heap.size) : Ap w5 B G S us n i b off nm (L.setIfInBounds 12 true) v' s45 s46 s47 s48 s49 s50 s51 s52 s53 s54 s55 s56 x :=
  ⟨by simp [h.sz], h.bl.trans (hb.mono hB), fun g => (h.h0 (on_set g (by decide))).below hb (fun c e => c (on_up e)), fun g => h.h1 (on_set g (by decide)), fun g => h.h2 (on_set g (by decide)), fun g => Lx.own_below (h.h3 (on_set g (by decide))) hb, fun g => h.h4 (on_set g (by decide)), fun g => h.h5 (on_set g (by decide)), fun g => h.h6 (on_set g (by decide)), fun g => h.h7 (on_set g (by decide)), fun g => h.h8 (on_set g (by decide)), fun g => h.h9 (on_set g (by decide)), fun g => (h.h10 (on_set g (by decide))).keep (Kp.of hb), fun g => (h.h11 (on_set g (by decide))).keep (Kp.of hb), fun _ => hx⟩
theorem Ap.start (L : Array Bool) (hL : L = Array.replicate 13 false) (v : World) (hb : Below B w5 v) (s45 s46 s47 s48 s49 s50 s51 s52 s53 s54 s55 s56 s57 : Value) : Ap w5 B G S us n i b off nm L v s45 s46 s47 s48 s49 s50 s51 s52 s53 s54 s55 s56 s57 := by
  subst hL
  refine ⟨by simp, hb, fun g => absurd g (by simp [on]), fun g => absurd g (by simp [on]), fun g => absurd g (by simp [on]), fun g => absurd g (by simp [on]), fun g => absurd g (by simp [on]), fun g => absurd g (by simp [on]), fun g => absurd g (by simp [on]), fun g => absurd g (by simp [on]), fun g => absurd g (by simp [on]), fun g => absurd g (by simp [on]), fun g => absurd g (by simp [on]), fun g => absurd g (by simp [on]), fun g => absurd g (by simp [on])⟩
end
/-- nodes with one more, as they are read -/
theorem twice_nl {w v w6 : World} {B g2 cx c6 : Nat} {ax a6 : Option Addr} {us : List Value} {l : List Nd} {nm : ByteArray} (hcp : Cp w us l) (hw : Below w.heap.size w w6) (ho : v.ownsRow B 30 8 (.slice ax l.length cx) l.length us) (hg : v.grownBy w6 (Value.slice ax l.length cx).ownBlock)
    (h2 : v.heap[g2]? = some (.cells #[.int .i64 1] 3 (0, 0))) (ho6 : w6.ownsRow B 30 8 (.slice a6 (l.length + 1) c6) (l.length + 1) (us ++ [.string ⟨#[112, 97, 114, 97, 109]⟩, .int .i64 0, .int .i64 0, .string nm, .slice (some ⟨g2, 0, none⟩) 1 1, .string ⟨#[]⟩, .int .i64 0, .slice none 0 0])) : Nl w6 a6 (l ++ [⟨str lParam, 0, 0, nm, [1], em, 0, []⟩]) := by
  have hne := own_off ho h2 (fun c e => by cases e)
  have h6 : w6.heap[g2]? = some (.cells #[.int .i64 1] 3 (0, 0)) := by
    rw [hg.block g2 (Array.getElem?_eq_some_iff.1 h2).1 (by rcases hne with e | e <;> simp [e]; exact fun c => e c.symm)]; exact h2
  have hnc : Nc w6 [.string ⟨#[112, 97, 114, 97, 109]⟩, .int .i64 0, .int .i64 0, .string nm, .slice (some ⟨g2, 0, none⟩) 1 1, .string ⟨#[]⟩, .int .i64 0, .slice none 0 0] ⟨str lParam, 0, 0, nm, [1], em, 0, []⟩ := ⟨some ⟨g2, 0, none⟩, 1, none, 0, rfl, fun i hi => ⟨g2, 0, rfl, by
    have : i = 0 := by simp at hi; exact hi
    subst this
    simp [World.cell?, h6]⟩, Row.nil _ _⟩
  have := (hcp.below hw).snoc hnc
  exact this.nl (by simpa using ho6)
theorem own_cap {w : World} {B n c : Nat} {ao : Option Addr} {xs : List Value} (h : w.ownsRow B 30 8 (.slice ao n c) n xs) : n ≤ c ∧ c ≤ maxLen := by
  rcases h.2 with ⟨e1, e2⟩ | ⟨g, cap, cur, e1, e2, e3, e4, e5, _⟩
  · simp only [Value.slice.injEq] at e1
    omega
  · simp only [Value.slice.injEq] at e1
    omega
end Go.Proofs.YtadgnafafdfioaaDoor.Gr
