/-
  THE WALK OF ArrayUnits. Conditions: what the argument holds.
-/
import Derived.Test.YtbfboippaejnmaaGreatDoorGz
import Derived.Test.YtbfboippaejnmaaGreatDoorRl
namespace Go.Proofs.YtbfboippaejnmaaGreatDoor.Tn
set_option maxRecDepth 100000
open Go.RowKit Nm
set_option linter.unusedVariables false
theorem one_new {v : World} {b : Nat} {x : Value} (h : v.cell? ⟨b, 0, none⟩ = some x) : ∀ (j : Nat) (y : Value), ([x] : List Value)[j]? = some y → v.cell? ((⟨b, 0, none⟩ : Addr).add j) = some y := by
  intro j y hj
  match j, hj with
  | 0, hj => simp at hj; subst hj; rw [row_add]; exact h
  | j + 1, hj => simp at hj
structure Gu1 (wr : World) (o : Option Nat) (OW : World → Prop) (OA : World → Value → Prop) (P1 V0 I J : Value) (L : Array Bool) (v : World) (s49 s50 s51 s52 s53 s54 s55 s56 s57 s58 s59 s60 : Value) : Prop where
  sz : L.size = 12
  gb : wr.grownBy v o
  kw : ∀ u x, OW u → OW (u.alloc x)
  ow : ¬ on L 10 → OW v
  oa : on L 10 → OA v s59
  h0 : on L 0 → s49 = P1
  h1 : on L 1 → s50 = V0
  h2 : on L 2 → s51 = .slice (some ⟨wr.heap.size, 0, none⟩) 2 2
  h3 : on L 3 → s52 = I
  h4 : on L 4 → s53 = J
  h5 : on L 5 → s54 = .bool true
  h6 : on L 6 → s55 = .int .i64 1
  h7 : on L 7 → s56 = .pointer (some ⟨wr.heap.size, 1, none⟩)
  h8 : on L 8 → s57 = .string ⟨#[49]⟩
  h9 : on L 9 → s58 = .slice (some ⟨wr.heap.size + 1, 0, none⟩) 1 1
  h11 : on L 11 → s60 = P1
  n0 : ¬ on L 10 → ¬ on L 2 → v.heap.size = wr.heap.size
  n1 : ¬ on L 10 → on L 2 → ¬ on L 9 → v.heap.size = wr.heap.size + 1
  n2 : ¬ on L 10 → on L 9 → v.heap.size = wr.heap.size + 1 + 1
  c0_0 : ¬ on L 10 → on L 2 → v.cell? ⟨wr.heap.size, 0, none⟩ = some (.string ⟨#[48]⟩)
  c0_1 : ¬ on L 10 → on L 2 → v.cell? ⟨wr.heap.size, 1, none⟩ = some (.string ⟨#[49]⟩)
  c1_0 : ¬ on L 10 → on L 9 → v.cell? ⟨wr.heap.size + 1, 0, none⟩ = some (.string ⟨#[49]⟩)
  r7_2 : on L 7 → on L 2
  r8_2 : on L 8 → on L 2
  r9_2 : on L 9 → on L 2
  r9_8 : on L 9 → on L 8
  r10_2 : on L 10 → on L 2
  r10_8 : on L 10 → on L 8
  r10_9 : on L 10 → on L 9
section
variable {wr : World} {o : Option Nat} {OW : World → Prop} {OA : World → Value → Prop} {P1 V0 I J : Value} {L : Array Bool} {v v' : World} {s49 s50 s51 s52 s53 s54 s55 s56 s57 s58 s59 s60 : Value}
theorem Gu1.t0 (h : Gu1 wr o OW OA P1 V0 I J L v s49 s50 s51 s52 s53 s54 s55 s56 s57 s58 s59 s60) : Gu1 wr o OW OA P1 V0 I J (L.setIfInBounds 0 true) v (P1) s50 s51 s52 s53 s54 s55 s56 s57 s58 s59 s60 :=
  ⟨by simp [h.sz], h.gb, h.kw, fun g => h.ow (fun c => g (on_up c)) , fun g => h.oa (on_set g (by decide)), fun _ => rfl, fun g => h.h1 (on_set g (by decide)), fun g => h.h2 (on_set g (by decide)), fun g => h.h3 (on_set g (by decide)), fun g => h.h4 (on_set g (by decide)), fun g => h.h5 (on_set g (by decide)), fun g => h.h6 (on_set g (by decide)), fun g => h.h7 (on_set g (by decide)), fun g => h.h8 (on_set g (by decide)), fun g => h.h9 (on_set g (by decide)), fun g => h.h11 (on_set g (by decide)), fun a q => h.n0 (fun c => a (on_up c)) (fun c => q (on_up c)), fun a p q => h.n1 (fun c => a (on_up c)) (on_set p (by decide)) (fun c => q (on_up c)), fun a p => h.n2 (fun c => a (on_up c)) (on_set p (by decide)), fun a p => h.c0_0 (fun c => a (on_up c)) (on_set p (by decide)), fun a p => h.c0_1 (fun c => a (on_up c)) (on_set p (by decide)), fun a p => h.c1_0 (fun c => a (on_up c)) (on_set p (by decide)), fun g => on_up (h.r7_2 (on_set g (by decide))), fun g => on_up (h.r8_2 (on_set g (by decide))), fun g => on_up (h.r9_2 (on_set g (by decide))), fun g => on_up (h.r9_8 (on_set g (by decide))), fun g => on_up (h.r10_2 (on_set g (by decide))), fun g => on_up (h.r10_8 (on_set g (by decide))), fun g => on_up (h.r10_9 (on_set g (by decide)))⟩
theorem Gu1.t1 (h : Gu1 wr o OW OA P1 V0 I J L v s49 s50 s51 s52 s53 s54 s55 s56 s57 s58 s59 s60) (g0 : on L 0) : Gu1 wr o OW OA P1 V0 I J (L.setIfInBounds 1 true) v s49 (V0) s51 s52 s53 s54 s55 s56 s57 s58 s59 s60 :=
  ⟨by simp [h.sz], h.gb, h.kw, fun g => h.ow (fun c => g (on_up c)) , fun g => h.oa (on_set g (by decide)), fun g => h.h0 (on_set g (by decide)), fun _ => rfl, fun g => h.h2 (on_set g (by decide)), fun g => h.h3 (on_set g (by decide)), fun g => h.h4 (on_set g (by decide)), fun g => h.h5 (on_set g (by decide)), fun g => h.h6 (on_set g (by decide)), fun g => h.h7 (on_set g (by decide)), fun g => h.h8 (on_set g (by decide)), fun g => h.h9 (on_set g (by decide)), fun g => h.h11 (on_set g (by decide)), fun a q => h.n0 (fun c => a (on_up c)) (fun c => q (on_up c)), fun a p q => h.n1 (fun c => a (on_up c)) (on_set p (by decide)) (fun c => q (on_up c)), fun a p => h.n2 (fun c => a (on_up c)) (on_set p (by decide)), fun a p => h.c0_0 (fun c => a (on_up c)) (on_set p (by decide)), fun a p => h.c0_1 (fun c => a (on_up c)) (on_set p (by decide)), fun a p => h.c1_0 (fun c => a (on_up c)) (on_set p (by decide)), fun g => on_up (h.r7_2 (on_set g (by decide))), fun g => on_up (h.r8_2 (on_set g (by decide))), fun g => on_up (h.r9_2 (on_set g (by decide))), fun g => on_up (h.r9_8 (on_set g (by decide))), fun g => on_up (h.r10_2 (on_set g (by decide))), fun g => on_up (h.r10_8 (on_set g (by decide))), fun g => on_up (h.r10_9 (on_set g (by decide)))⟩
theorem Gu1.t2 (h : Gu1 wr o OW OA P1 V0 I J L v s49 s50 s51 s52 s53 s54 s55 s56 s57 s58 s59 s60) (hu : ¬ on L 2) (ha : ¬ on L 10) : Gu1 wr o OW OA P1 V0 I J (L.setIfInBounds 2 true) (v.alloc (.cells #[.string ⟨#[48]⟩, .string ⟨#[49]⟩] 9)) s49 s50 (.slice (some ⟨v.heap.size, 0, none⟩) 2 2) s52 s53 s54 s55 s56 s57 s58 s59 s60 :=
  ⟨by simp [h.sz], grown_alloc h.gb _, h.kw, fun g => h.kw _ _ (h.ow ha ), fun g => absurd (h.r10_2 (on_set g (by decide))) hu, fun g => h.h0 (on_set g (by decide)), fun g => h.h1 (on_set g (by decide)), fun _ => by rw [h.n0 ha hu], fun g => h.h3 (on_set g (by decide)), fun g => h.h4 (on_set g (by decide)), fun g => h.h5 (on_set g (by decide)), fun g => h.h6 (on_set g (by decide)), fun g => h.h7 (on_set g (by decide)), fun g => h.h8 (on_set g (by decide)), fun g => h.h9 (on_set g (by decide)), fun g => h.h11 (on_set g (by decide)), fun a q => absurd (on_self (by rw [h.sz]; decide)) q, fun a p q => by rw [World.size_alloc, h.n0 ha hu], fun a p => absurd (h.r9_2 (on_set p (by decide))) hu, fun a p => by rw [← h.n0 ha hu]; simp, fun a p => by rw [← h.n0 ha hu]; simp, fun a p => absurd (h.r9_2 (on_set p (by decide))) hu, fun _ => on_self (by rw [h.sz]; decide), fun _ => on_self (by rw [h.sz]; decide), fun _ => on_self (by rw [h.sz]; decide), fun g => on_up (h.r9_8 (on_set g (by decide))), fun _ => on_self (by rw [h.sz]; decide), fun g => on_up (h.r10_8 (on_set g (by decide))), fun g => on_up (h.r10_9 (on_set g (by decide)))⟩
theorem Gu1.t3 (h : Gu1 wr o OW OA P1 V0 I J L v s49 s50 s51 s52 s53 s54 s55 s56 s57 s58 s59 s60) : Gu1 wr o OW OA P1 V0 I J (L.setIfInBounds 3 true) v s49 s50 s51 (I) s53 s54 s55 s56 s57 s58 s59 s60 :=
  ⟨by simp [h.sz], h.gb, h.kw, fun g => h.ow (fun c => g (on_up c)) , fun g => h.oa (on_set g (by decide)), fun g => h.h0 (on_set g (by decide)), fun g => h.h1 (on_set g (by decide)), fun g => h.h2 (on_set g (by decide)), fun _ => rfl, fun g => h.h4 (on_set g (by decide)), fun g => h.h5 (on_set g (by decide)), fun g => h.h6 (on_set g (by decide)), fun g => h.h7 (on_set g (by decide)), fun g => h.h8 (on_set g (by decide)), fun g => h.h9 (on_set g (by decide)), fun g => h.h11 (on_set g (by decide)), fun a q => h.n0 (fun c => a (on_up c)) (fun c => q (on_up c)), fun a p q => h.n1 (fun c => a (on_up c)) (on_set p (by decide)) (fun c => q (on_up c)), fun a p => h.n2 (fun c => a (on_up c)) (on_set p (by decide)), fun a p => h.c0_0 (fun c => a (on_up c)) (on_set p (by decide)), fun a p => h.c0_1 (fun c => a (on_up c)) (on_set p (by decide)), fun a p => h.c1_0 (fun c => a (on_up c)) (on_set p (by decide)), fun g => on_up (h.r7_2 (on_set g (by decide))), fun g => on_up (h.r8_2 (on_set g (by decide))), fun g => on_up (h.r9_2 (on_set g (by decide))), fun g => on_up (h.r9_8 (on_set g (by decide))), fun g => on_up (h.r10_2 (on_set g (by decide))), fun g => on_up (h.r10_8 (on_set g (by decide))), fun g => on_up (h.r10_9 (on_set g (by decide)))⟩
theorem Gu1.t4 (h : Gu1 wr o OW OA P1 V0 I J L v s49 s50 s51 s52 s53 s54 s55 s56 s57 s58 s59 s60) : Gu1 wr o OW OA P1 V0 I J (L.setIfInBounds 4 true) v s49 s50 s51 s52 (J) s54 s55 s56 s57 s58 s59 s60 :=
  ⟨by simp [h.sz], h.gb, h.kw, fun g => h.ow (fun c => g (on_up c)) , fun g => h.oa (on_set g (by decide)), fun g => h.h0 (on_set g (by decide)), fun g => h.h1 (on_set g (by decide)), fun g => h.h2 (on_set g (by decide)), fun g => h.h3 (on_set g (by decide)), fun _ => rfl, fun g => h.h5 (on_set g (by decide)), fun g => h.h6 (on_set g (by decide)), fun g => h.h7 (on_set g (by decide)), fun g => h.h8 (on_set g (by decide)), fun g => h.h9 (on_set g (by decide)), fun g => h.h11 (on_set g (by decide)), fun a q => h.n0 (fun c => a (on_up c)) (fun c => q (on_up c)), fun a p q => h.n1 (fun c => a (on_up c)) (on_set p (by decide)) (fun c => q (on_up c)), fun a p => h.n2 (fun c => a (on_up c)) (on_set p (by decide)), fun a p => h.c0_0 (fun c => a (on_up c)) (on_set p (by decide)), fun a p => h.c0_1 (fun c => a (on_up c)) (on_set p (by decide)), fun a p => h.c1_0 (fun c => a (on_up c)) (on_set p (by decide)), fun g => on_up (h.r7_2 (on_set g (by decide))), fun g => on_up (h.r8_2 (on_set g (by decide))), fun g => on_up (h.r9_2 (on_set g (by decide))), fun g => on_up (h.r9_8 (on_set g (by decide))), fun g => on_up (h.r10_2 (on_set g (by decide))), fun g => on_up (h.r10_8 (on_set g (by decide))), fun g => on_up (h.r10_9 (on_set g (by decide)))⟩
theorem Gu1.t5 (h : Gu1 wr o OW OA P1 V0 I J L v s49 s50 s51 s52 s53 s54 s55 s56 s57 s58 s59 s60) (g3 : on L 3) (g4 : on L 4) : Gu1 wr o OW OA P1 V0 I J (L.setIfInBounds 5 true) v s49 s50 s51 s52 s53 (.bool true) s55 s56 s57 s58 s59 s60 :=
  ⟨by simp [h.sz], h.gb, h.kw, fun g => h.ow (fun c => g (on_up c)) , fun g => h.oa (on_set g (by decide)), fun g => h.h0 (on_set g (by decide)), fun g => h.h1 (on_set g (by decide)), fun g => h.h2 (on_set g (by decide)), fun g => h.h3 (on_set g (by decide)), fun g => h.h4 (on_set g (by decide)), fun _ => rfl, fun g => h.h6 (on_set g (by decide)), fun g => h.h7 (on_set g (by decide)), fun g => h.h8 (on_set g (by decide)), fun g => h.h9 (on_set g (by decide)), fun g => h.h11 (on_set g (by decide)), fun a q => h.n0 (fun c => a (on_up c)) (fun c => q (on_up c)), fun a p q => h.n1 (fun c => a (on_up c)) (on_set p (by decide)) (fun c => q (on_up c)), fun a p => h.n2 (fun c => a (on_up c)) (on_set p (by decide)), fun a p => h.c0_0 (fun c => a (on_up c)) (on_set p (by decide)), fun a p => h.c0_1 (fun c => a (on_up c)) (on_set p (by decide)), fun a p => h.c1_0 (fun c => a (on_up c)) (on_set p (by decide)), fun g => on_up (h.r7_2 (on_set g (by decide))), fun g => on_up (h.r8_2 (on_set g (by decide))), fun g => on_up (h.r9_2 (on_set g (by decide))), fun g => on_up (h.r9_8 (on_set g (by decide))), fun g => on_up (h.r10_2 (on_set g (by decide))), fun g => on_up (h.r10_8 (on_set g (by decide))), fun g => on_up (h.r10_9 (on_set g (by decide)))⟩
theorem Gu1.t6 (h : Gu1 wr o OW OA P1 V0 I J L v s49 s50 s51 s52 s53 s54 s55 s56 s57 s58 s59 s60) (g5 : on L 5) : Gu1 wr o OW OA P1 V0 I J (L.setIfInBounds 6 true) v s49 s50 s51 s52 s53 s54 (.int .i64 1) s56 s57 s58 s59 s60 :=
  ⟨by simp [h.sz], h.gb, h.kw, fun g => h.ow (fun c => g (on_up c)) , fun g => h.oa (on_set g (by decide)), fun g => h.h0 (on_set g (by decide)), fun g => h.h1 (on_set g (by decide)), fun g => h.h2 (on_set g (by decide)), fun g => h.h3 (on_set g (by decide)), fun g => h.h4 (on_set g (by decide)), fun g => h.h5 (on_set g (by decide)), fun _ => rfl, fun g => h.h7 (on_set g (by decide)), fun g => h.h8 (on_set g (by decide)), fun g => h.h9 (on_set g (by decide)), fun g => h.h11 (on_set g (by decide)), fun a q => h.n0 (fun c => a (on_up c)) (fun c => q (on_up c)), fun a p q => h.n1 (fun c => a (on_up c)) (on_set p (by decide)) (fun c => q (on_up c)), fun a p => h.n2 (fun c => a (on_up c)) (on_set p (by decide)), fun a p => h.c0_0 (fun c => a (on_up c)) (on_set p (by decide)), fun a p => h.c0_1 (fun c => a (on_up c)) (on_set p (by decide)), fun a p => h.c1_0 (fun c => a (on_up c)) (on_set p (by decide)), fun g => on_up (h.r7_2 (on_set g (by decide))), fun g => on_up (h.r8_2 (on_set g (by decide))), fun g => on_up (h.r9_2 (on_set g (by decide))), fun g => on_up (h.r9_8 (on_set g (by decide))), fun g => on_up (h.r10_2 (on_set g (by decide))), fun g => on_up (h.r10_8 (on_set g (by decide))), fun g => on_up (h.r10_9 (on_set g (by decide)))⟩
theorem Gu1.t7 (h : Gu1 wr o OW OA P1 V0 I J L v s49 s50 s51 s52 s53 s54 s55 s56 s57 s58 s59 s60) (g2 : on L 2) (g6 : on L 6) : Gu1 wr o OW OA P1 V0 I J (L.setIfInBounds 7 true) v s49 s50 s51 s52 s53 s54 s55 (.pointer (some ⟨wr.heap.size, 1, none⟩)) s57 s58 s59 s60 :=
  ⟨by simp [h.sz], h.gb, h.kw, fun g => h.ow (fun c => g (on_up c)) , fun g => h.oa (on_set g (by decide)), fun g => h.h0 (on_set g (by decide)), fun g => h.h1 (on_set g (by decide)), fun g => h.h2 (on_set g (by decide)), fun g => h.h3 (on_set g (by decide)), fun g => h.h4 (on_set g (by decide)), fun g => h.h5 (on_set g (by decide)), fun g => h.h6 (on_set g (by decide)), fun _ => rfl, fun g => h.h8 (on_set g (by decide)), fun g => h.h9 (on_set g (by decide)), fun g => h.h11 (on_set g (by decide)), fun a q => h.n0 (fun c => a (on_up c)) (fun c => q (on_up c)), fun a p q => h.n1 (fun c => a (on_up c)) (on_set p (by decide)) (fun c => q (on_up c)), fun a p => h.n2 (fun c => a (on_up c)) (on_set p (by decide)), fun a p => h.c0_0 (fun c => a (on_up c)) (on_set p (by decide)), fun a p => h.c0_1 (fun c => a (on_up c)) (on_set p (by decide)), fun a p => h.c1_0 (fun c => a (on_up c)) (on_set p (by decide)), fun _ => on_up g2, fun g => on_up (h.r8_2 (on_set g (by decide))), fun g => on_up (h.r9_2 (on_set g (by decide))), fun g => on_up (h.r9_8 (on_set g (by decide))), fun g => on_up (h.r10_2 (on_set g (by decide))), fun g => on_up (h.r10_8 (on_set g (by decide))), fun g => on_up (h.r10_9 (on_set g (by decide)))⟩
theorem Gu1.t8 (h : Gu1 wr o OW OA P1 V0 I J L v s49 s50 s51 s52 s53 s54 s55 s56 s57 s58 s59 s60) (g7 : on L 7) : Gu1 wr o OW OA P1 V0 I J (L.setIfInBounds 8 true) v s49 s50 s51 s52 s53 s54 s55 s56 (.string ⟨#[49]⟩) s58 s59 s60 :=
  ⟨by simp [h.sz], h.gb, h.kw, fun g => h.ow (fun c => g (on_up c)) , fun g => h.oa (on_set g (by decide)), fun g => h.h0 (on_set g (by decide)), fun g => h.h1 (on_set g (by decide)), fun g => h.h2 (on_set g (by decide)), fun g => h.h3 (on_set g (by decide)), fun g => h.h4 (on_set g (by decide)), fun g => h.h5 (on_set g (by decide)), fun g => h.h6 (on_set g (by decide)), fun g => h.h7 (on_set g (by decide)), fun _ => rfl, fun g => h.h9 (on_set g (by decide)), fun g => h.h11 (on_set g (by decide)), fun a q => h.n0 (fun c => a (on_up c)) (fun c => q (on_up c)), fun a p q => h.n1 (fun c => a (on_up c)) (on_set p (by decide)) (fun c => q (on_up c)), fun a p => h.n2 (fun c => a (on_up c)) (on_set p (by decide)), fun a p => h.c0_0 (fun c => a (on_up c)) (on_set p (by decide)), fun a p => h.c0_1 (fun c => a (on_up c)) (on_set p (by decide)), fun a p => h.c1_0 (fun c => a (on_up c)) (on_set p (by decide)), fun g => on_up (h.r7_2 (on_set g (by decide))), fun _ => on_up (h.r7_2 g7), fun g => on_up (h.r9_2 (on_set g (by decide))), fun _ => on_self (by rw [h.sz]; decide), fun g => on_up (h.r10_2 (on_set g (by decide))), fun _ => on_self (by rw [h.sz]; decide), fun g => on_up (h.r10_9 (on_set g (by decide)))⟩
theorem Gu1.t9 (h : Gu1 wr o OW OA P1 V0 I J L v s49 s50 s51 s52 s53 s54 s55 s56 s57 s58 s59 s60) (g8 : on L 8) (hu : ¬ on L 9) (ha : ¬ on L 10) : Gu1 wr o OW OA P1 V0 I J (L.setIfInBounds 9 true) (v.alloc (.cells #[.string ⟨#[49]⟩] 9)) s49 s50 s51 s52 s53 s54 s55 s56 s57 (.slice (some ⟨v.heap.size, 0, none⟩) 1 1) s59 s60 :=
  ⟨by simp [h.sz], grown_alloc h.gb _, h.kw, fun g => h.kw _ _ (h.ow ha ), fun g => absurd (h.r10_9 (on_set g (by decide))) hu, fun g => h.h0 (on_set g (by decide)), fun g => h.h1 (on_set g (by decide)), fun g => h.h2 (on_set g (by decide)), fun g => h.h3 (on_set g (by decide)), fun g => h.h4 (on_set g (by decide)), fun g => h.h5 (on_set g (by decide)), fun g => h.h6 (on_set g (by decide)), fun g => h.h7 (on_set g (by decide)), fun g => h.h8 (on_set g (by decide)), fun _ => by rw [h.n1 ha (h.r8_2 g8) hu], fun g => h.h11 (on_set g (by decide)), fun a q => absurd (on_up ((h.r8_2 g8))) q, fun a p q => absurd (on_self (by rw [h.sz]; decide)) q, fun a p => by rw [World.size_alloc, h.n1 ha (h.r8_2 g8) hu], fun a p => cell_below (bl_alloc (Below.refl v.heap.size v) _) (h.c0_0 ha (on_set p (by decide))), fun a p => cell_below (bl_alloc (Below.refl v.heap.size v) _) (h.c0_1 ha (on_set p (by decide))), fun a p => by rw [← h.n1 ha (h.r8_2 g8) hu]; simp, fun g => on_up (h.r7_2 (on_set g (by decide))), fun g => on_up (h.r8_2 (on_set g (by decide))), fun _ => on_up (h.r8_2 g8), fun _ => on_up g8, fun g => on_up (h.r10_2 (on_set g (by decide))), fun g => on_up (h.r10_8 (on_set g (by decide))), fun _ => on_self (by rw [h.sz]; decide)⟩
theorem Gu1.t10 (h : Gu1 wr o OW OA P1 V0 I J L v s49 s50 s51 s52 s53 s54 s55 s56 s57 s58 s59 s60) (g1 : on L 1) (g9 : on L 9) {x : Value} (hg : v.grownBy v' o) (hy : OA v' x) : Gu1 wr o OW OA P1 V0 I J (L.setIfInBounds 10 true) v' s49 s50 s51 s52 s53 s54 s55 s56 s57 s58 x s60 :=
  ⟨by simp [h.sz], grown_trans h.gb hg, h.kw, fun g => absurd (on_self (by rw [h.sz]; decide)) g, fun _ => hy, fun g => h.h0 (on_set g (by decide)), fun g => h.h1 (on_set g (by decide)), fun g => h.h2 (on_set g (by decide)), fun g => h.h3 (on_set g (by decide)), fun g => h.h4 (on_set g (by decide)), fun g => h.h5 (on_set g (by decide)), fun g => h.h6 (on_set g (by decide)), fun g => h.h7 (on_set g (by decide)), fun g => h.h8 (on_set g (by decide)), fun g => h.h9 (on_set g (by decide)), fun g => h.h11 (on_set g (by decide)), fun a q => absurd (on_self (by rw [h.sz]; decide)) a, fun a p q => absurd (on_self (by rw [h.sz]; decide)) a, fun a p => absurd (on_self (by rw [h.sz]; decide)) a, fun a p => absurd (on_self (by rw [h.sz]; decide)) a, fun a p => absurd (on_self (by rw [h.sz]; decide)) a, fun a p => absurd (on_self (by rw [h.sz]; decide)) a, fun g => on_up (h.r7_2 (on_set g (by decide))), fun g => on_up (h.r8_2 (on_set g (by decide))), fun g => on_up (h.r9_2 (on_set g (by decide))), fun g => on_up (h.r9_8 (on_set g (by decide))), fun _ => on_up (h.r9_2 g9), fun _ => on_up (h.r9_8 g9), fun _ => on_up g9⟩
theorem Gu1.t11 (h : Gu1 wr o OW OA P1 V0 I J L v s49 s50 s51 s52 s53 s54 s55 s56 s57 s58 s59 s60) : Gu1 wr o OW OA P1 V0 I J (L.setIfInBounds 11 true) v s49 s50 s51 s52 s53 s54 s55 s56 s57 s58 s59 (P1) :=
  ⟨by simp [h.sz], h.gb, h.kw, fun g => h.ow (fun c => g (on_up c)) , fun g => h.oa (on_set g (by decide)), fun g => h.h0 (on_set g (by decide)), fun g => h.h1 (on_set g (by decide)), fun g => h.h2 (on_set g (by decide)), fun g => h.h3 (on_set g (by decide)), fun g => h.h4 (on_set g (by decide)), fun g => h.h5 (on_set g (by decide)), fun g => h.h6 (on_set g (by decide)), fun g => h.h7 (on_set g (by decide)), fun g => h.h8 (on_set g (by decide)), fun g => h.h9 (on_set g (by decide)), fun _ => rfl, fun a q => h.n0 (fun c => a (on_up c)) (fun c => q (on_up c)), fun a p q => h.n1 (fun c => a (on_up c)) (on_set p (by decide)) (fun c => q (on_up c)), fun a p => h.n2 (fun c => a (on_up c)) (on_set p (by decide)), fun a p => h.c0_0 (fun c => a (on_up c)) (on_set p (by decide)), fun a p => h.c0_1 (fun c => a (on_up c)) (on_set p (by decide)), fun a p => h.c1_0 (fun c => a (on_up c)) (on_set p (by decide)), fun g => on_up (h.r7_2 (on_set g (by decide))), fun g => on_up (h.r8_2 (on_set g (by decide))), fun g => on_up (h.r9_2 (on_set g (by decide))), fun g => on_up (h.r9_8 (on_set g (by decide))), fun g => on_up (h.r10_2 (on_set g (by decide))), fun g => on_up (h.r10_8 (on_set g (by decide))), fun g => on_up (h.r10_9 (on_set g (by decide)))⟩
end
structure Gu2 (wr : World) (o : Option Nat) (OW : World → Prop) (OA : World → Value → Prop) (P1 V0 I J : Value) (L : Array Bool) (v : World) (s49 s50 s51 s52 s53 s54 s55 s56 s57 s58 s59 s60 : Value) : Prop where
  sz : L.size = 12
  gb : wr.grownBy v o
  kw : ∀ u x, OW u → OW (u.alloc x)
  ow : ¬ on L 10 → OW v
  oa : on L 10 → OA v s59
  h0 : on L 0 → s49 = P1
  h1 : on L 1 → s50 = V0
  h2 : on L 2 → s51 = .slice (some ⟨wr.heap.size, 0, none⟩) 2 2
  h3 : on L 3 → s52 = I
  h4 : on L 4 → s53 = J
  h5 : on L 5 → s54 = .bool false
  h6 : on L 6 → s55 = .int .i64 0
  h7 : on L 7 → s56 = .pointer (some ⟨wr.heap.size, 0, none⟩)
  h8 : on L 8 → s57 = .string ⟨#[48]⟩
  h9 : on L 9 → s58 = .slice (some ⟨wr.heap.size + 1, 0, none⟩) 1 1
  h11 : on L 11 → s60 = P1
  n0 : ¬ on L 10 → ¬ on L 2 → v.heap.size = wr.heap.size
  n1 : ¬ on L 10 → on L 2 → ¬ on L 9 → v.heap.size = wr.heap.size + 1
  n2 : ¬ on L 10 → on L 9 → v.heap.size = wr.heap.size + 1 + 1
  c0_0 : ¬ on L 10 → on L 2 → v.cell? ⟨wr.heap.size, 0, none⟩ = some (.string ⟨#[48]⟩)
  c0_1 : ¬ on L 10 → on L 2 → v.cell? ⟨wr.heap.size, 1, none⟩ = some (.string ⟨#[49]⟩)
  c1_0 : ¬ on L 10 → on L 9 → v.cell? ⟨wr.heap.size + 1, 0, none⟩ = some (.string ⟨#[48]⟩)
  r7_2 : on L 7 → on L 2
  r8_2 : on L 8 → on L 2
  r9_2 : on L 9 → on L 2
  r9_8 : on L 9 → on L 8
  r10_2 : on L 10 → on L 2
  r10_8 : on L 10 → on L 8
  r10_9 : on L 10 → on L 9
section
variable {wr : World} {o : Option Nat} {OW : World → Prop} {OA : World → Value → Prop} {P1 V0 I J : Value} {L : Array Bool} {v v' : World} {s49 s50 s51 s52 s53 s54 s55 s56 s57 s58 s59 s60 : Value}
theorem Gu2.t0 (h : Gu2 wr o OW OA P1 V0 I J L v s49 s50 s51 s52 s53 s54 s55 s56 s57 s58 s59 s60) : Gu2 wr o OW OA P1 V0 I J (L.setIfInBounds 0 true) v (P1) s50 s51 s52 s53 s54 s55 s56 s57 s58 s59 s60 :=
  ⟨by simp [h.sz], h.gb, h.kw, fun g => h.ow (fun c => g (on_up c)) , fun g => h.oa (on_set g (by decide)), fun _ => rfl, fun g => h.h1 (on_set g (by decide)), fun g => h.h2 (on_set g (by decide)), fun g => h.h3 (on_set g (by decide)), fun g => h.h4 (on_set g (by decide)), fun g => h.h5 (on_set g (by decide)), fun g => h.h6 (on_set g (by decide)), fun g => h.h7 (on_set g (by decide)), fun g => h.h8 (on_set g (by decide)), fun g => h.h9 (on_set g (by decide)), fun g => h.h11 (on_set g (by decide)), fun a q => h.n0 (fun c => a (on_up c)) (fun c => q (on_up c)), fun a p q => h.n1 (fun c => a (on_up c)) (on_set p (by decide)) (fun c => q (on_up c)), fun a p => h.n2 (fun c => a (on_up c)) (on_set p (by decide)), fun a p => h.c0_0 (fun c => a (on_up c)) (on_set p (by decide)), fun a p => h.c0_1 (fun c => a (on_up c)) (on_set p (by decide)), fun a p => h.c1_0 (fun c => a (on_up c)) (on_set p (by decide)), fun g => on_up (h.r7_2 (on_set g (by decide))), fun g => on_up (h.r8_2 (on_set g (by decide))), fun g => on_up (h.r9_2 (on_set g (by decide))), fun g => on_up (h.r9_8 (on_set g (by decide))), fun g => on_up (h.r10_2 (on_set g (by decide))), fun g => on_up (h.r10_8 (on_set g (by decide))), fun g => on_up (h.r10_9 (on_set g (by decide)))⟩
theorem Gu2.t1 (h : Gu2 wr o OW OA P1 V0 I J L v s49 s50 s51 s52 s53 s54 s55 s56 s57 s58 s59 s60) (g0 : on L 0) : Gu2 wr o OW OA P1 V0 I J (L.setIfInBounds 1 true) v s49 (V0) s51 s52 s53 s54 s55 s56 s57 s58 s59 s60 :=
  ⟨by simp [h.sz], h.gb, h.kw, fun g => h.ow (fun c => g (on_up c)) , fun g => h.oa (on_set g (by decide)), fun g => h.h0 (on_set g (by decide)), fun _ => rfl, fun g => h.h2 (on_set g (by decide)), fun g => h.h3 (on_set g (by decide)), fun g => h.h4 (on_set g (by decide)), fun g => h.h5 (on_set g (by decide)), fun g => h.h6 (on_set g (by decide)), fun g => h.h7 (on_set g (by decide)), fun g => h.h8 (on_set g (by decide)), fun g => h.h9 (on_set g (by decide)), fun g => h.h11 (on_set g (by decide)), fun a q => h.n0 (fun c => a (on_up c)) (fun c => q (on_up c)), fun a p q => h.n1 (fun c => a (on_up c)) (on_set p (by decide)) (fun c => q (on_up c)), fun a p => h.n2 (fun c => a (on_up c)) (on_set p (by decide)), fun a p => h.c0_0 (fun c => a (on_up c)) (on_set p (by decide)), fun a p => h.c0_1 (fun c => a (on_up c)) (on_set p (by decide)), fun a p => h.c1_0 (fun c => a (on_up c)) (on_set p (by decide)), fun g => on_up (h.r7_2 (on_set g (by decide))), fun g => on_up (h.r8_2 (on_set g (by decide))), fun g => on_up (h.r9_2 (on_set g (by decide))), fun g => on_up (h.r9_8 (on_set g (by decide))), fun g => on_up (h.r10_2 (on_set g (by decide))), fun g => on_up (h.r10_8 (on_set g (by decide))), fun g => on_up (h.r10_9 (on_set g (by decide)))⟩
theorem Gu2.t2 (h : Gu2 wr o OW OA P1 V0 I J L v s49 s50 s51 s52 s53 s54 s55 s56 s57 s58 s59 s60) (hu : ¬ on L 2) (ha : ¬ on L 10) : Gu2 wr o OW OA P1 V0 I J (L.setIfInBounds 2 true) (v.alloc (.cells #[.string ⟨#[48]⟩, .string ⟨#[49]⟩] 9)) s49 s50 (.slice (some ⟨v.heap.size, 0, none⟩) 2 2) s52 s53 s54 s55 s56 s57 s58 s59 s60 :=
  ⟨by simp [h.sz], grown_alloc h.gb _, h.kw, fun g => h.kw _ _ (h.ow ha ), fun g => absurd (h.r10_2 (on_set g (by decide))) hu, fun g => h.h0 (on_set g (by decide)), fun g => h.h1 (on_set g (by decide)), fun _ => by rw [h.n0 ha hu], fun g => h.h3 (on_set g (by decide)), fun g => h.h4 (on_set g (by decide)), fun g => h.h5 (on_set g (by decide)), fun g => h.h6 (on_set g (by decide)), fun g => h.h7 (on_set g (by decide)), fun g => h.h8 (on_set g (by decide)), fun g => h.h9 (on_set g (by decide)), fun g => h.h11 (on_set g (by decide)), fun a q => absurd (on_self (by rw [h.sz]; decide)) q, fun a p q => by rw [World.size_alloc, h.n0 ha hu], fun a p => absurd (h.r9_2 (on_set p (by decide))) hu, fun a p => by rw [← h.n0 ha hu]; simp, fun a p => by rw [← h.n0 ha hu]; simp, fun a p => absurd (h.r9_2 (on_set p (by decide))) hu, fun _ => on_self (by rw [h.sz]; decide), fun _ => on_self (by rw [h.sz]; decide), fun _ => on_self (by rw [h.sz]; decide), fun g => on_up (h.r9_8 (on_set g (by decide))), fun _ => on_self (by rw [h.sz]; decide), fun g => on_up (h.r10_8 (on_set g (by decide))), fun g => on_up (h.r10_9 (on_set g (by decide)))⟩
theorem Gu2.t3 (h : Gu2 wr o OW OA P1 V0 I J L v s49 s50 s51 s52 s53 s54 s55 s56 s57 s58 s59 s60) : Gu2 wr o OW OA P1 V0 I J (L.setIfInBounds 3 true) v s49 s50 s51 (I) s53 s54 s55 s56 s57 s58 s59 s60 :=
  ⟨by simp [h.sz], h.gb, h.kw, fun g => h.ow (fun c => g (on_up c)) , fun g => h.oa (on_set g (by decide)), fun g => h.h0 (on_set g (by decide)), fun g => h.h1 (on_set g (by decide)), fun g => h.h2 (on_set g (by decide)), fun _ => rfl, fun g => h.h4 (on_set g (by decide)), fun g => h.h5 (on_set g (by decide)), fun g => h.h6 (on_set g (by decide)), fun g => h.h7 (on_set g (by decide)), fun g => h.h8 (on_set g (by decide)), fun g => h.h9 (on_set g (by decide)), fun g => h.h11 (on_set g (by decide)), fun a q => h.n0 (fun c => a (on_up c)) (fun c => q (on_up c)), fun a p q => h.n1 (fun c => a (on_up c)) (on_set p (by decide)) (fun c => q (on_up c)), fun a p => h.n2 (fun c => a (on_up c)) (on_set p (by decide)), fun a p => h.c0_0 (fun c => a (on_up c)) (on_set p (by decide)), fun a p => h.c0_1 (fun c => a (on_up c)) (on_set p (by decide)), fun a p => h.c1_0 (fun c => a (on_up c)) (on_set p (by decide)), fun g => on_up (h.r7_2 (on_set g (by decide))), fun g => on_up (h.r8_2 (on_set g (by decide))), fun g => on_up (h.r9_2 (on_set g (by decide))), fun g => on_up (h.r9_8 (on_set g (by decide))), fun g => on_up (h.r10_2 (on_set g (by decide))), fun g => on_up (h.r10_8 (on_set g (by decide))), fun g => on_up (h.r10_9 (on_set g (by decide)))⟩
theorem Gu2.t4 (h : Gu2 wr o OW OA P1 V0 I J L v s49 s50 s51 s52 s53 s54 s55 s56 s57 s58 s59 s60) : Gu2 wr o OW OA P1 V0 I J (L.setIfInBounds 4 true) v s49 s50 s51 s52 (J) s54 s55 s56 s57 s58 s59 s60 :=
  ⟨by simp [h.sz], h.gb, h.kw, fun g => h.ow (fun c => g (on_up c)) , fun g => h.oa (on_set g (by decide)), fun g => h.h0 (on_set g (by decide)), fun g => h.h1 (on_set g (by decide)), fun g => h.h2 (on_set g (by decide)), fun g => h.h3 (on_set g (by decide)), fun _ => rfl, fun g => h.h5 (on_set g (by decide)), fun g => h.h6 (on_set g (by decide)), fun g => h.h7 (on_set g (by decide)), fun g => h.h8 (on_set g (by decide)), fun g => h.h9 (on_set g (by decide)), fun g => h.h11 (on_set g (by decide)), fun a q => h.n0 (fun c => a (on_up c)) (fun c => q (on_up c)), fun a p q => h.n1 (fun c => a (on_up c)) (on_set p (by decide)) (fun c => q (on_up c)), fun a p => h.n2 (fun c => a (on_up c)) (on_set p (by decide)), fun a p => h.c0_0 (fun c => a (on_up c)) (on_set p (by decide)), fun a p => h.c0_1 (fun c => a (on_up c)) (on_set p (by decide)), fun a p => h.c1_0 (fun c => a (on_up c)) (on_set p (by decide)), fun g => on_up (h.r7_2 (on_set g (by decide))), fun g => on_up (h.r8_2 (on_set g (by decide))), fun g => on_up (h.r9_2 (on_set g (by decide))), fun g => on_up (h.r9_8 (on_set g (by decide))), fun g => on_up (h.r10_2 (on_set g (by decide))), fun g => on_up (h.r10_8 (on_set g (by decide))), fun g => on_up (h.r10_9 (on_set g (by decide)))⟩
theorem Gu2.t5 (h : Gu2 wr o OW OA P1 V0 I J L v s49 s50 s51 s52 s53 s54 s55 s56 s57 s58 s59 s60) (g3 : on L 3) (g4 : on L 4) : Gu2 wr o OW OA P1 V0 I J (L.setIfInBounds 5 true) v s49 s50 s51 s52 s53 (.bool false) s55 s56 s57 s58 s59 s60 :=
  ⟨by simp [h.sz], h.gb, h.kw, fun g => h.ow (fun c => g (on_up c)) , fun g => h.oa (on_set g (by decide)), fun g => h.h0 (on_set g (by decide)), fun g => h.h1 (on_set g (by decide)), fun g => h.h2 (on_set g (by decide)), fun g => h.h3 (on_set g (by decide)), fun g => h.h4 (on_set g (by decide)), fun _ => rfl, fun g => h.h6 (on_set g (by decide)), fun g => h.h7 (on_set g (by decide)), fun g => h.h8 (on_set g (by decide)), fun g => h.h9 (on_set g (by decide)), fun g => h.h11 (on_set g (by decide)), fun a q => h.n0 (fun c => a (on_up c)) (fun c => q (on_up c)), fun a p q => h.n1 (fun c => a (on_up c)) (on_set p (by decide)) (fun c => q (on_up c)), fun a p => h.n2 (fun c => a (on_up c)) (on_set p (by decide)), fun a p => h.c0_0 (fun c => a (on_up c)) (on_set p (by decide)), fun a p => h.c0_1 (fun c => a (on_up c)) (on_set p (by decide)), fun a p => h.c1_0 (fun c => a (on_up c)) (on_set p (by decide)), fun g => on_up (h.r7_2 (on_set g (by decide))), fun g => on_up (h.r8_2 (on_set g (by decide))), fun g => on_up (h.r9_2 (on_set g (by decide))), fun g => on_up (h.r9_8 (on_set g (by decide))), fun g => on_up (h.r10_2 (on_set g (by decide))), fun g => on_up (h.r10_8 (on_set g (by decide))), fun g => on_up (h.r10_9 (on_set g (by decide)))⟩
theorem Gu2.t6 (h : Gu2 wr o OW OA P1 V0 I J L v s49 s50 s51 s52 s53 s54 s55 s56 s57 s58 s59 s60) (g5 : on L 5) : Gu2 wr o OW OA P1 V0 I J (L.setIfInBounds 6 true) v s49 s50 s51 s52 s53 s54 (.int .i64 0) s56 s57 s58 s59 s60 :=
  ⟨by simp [h.sz], h.gb, h.kw, fun g => h.ow (fun c => g (on_up c)) , fun g => h.oa (on_set g (by decide)), fun g => h.h0 (on_set g (by decide)), fun g => h.h1 (on_set g (by decide)), fun g => h.h2 (on_set g (by decide)), fun g => h.h3 (on_set g (by decide)), fun g => h.h4 (on_set g (by decide)), fun g => h.h5 (on_set g (by decide)), fun _ => rfl, fun g => h.h7 (on_set g (by decide)), fun g => h.h8 (on_set g (by decide)), fun g => h.h9 (on_set g (by decide)), fun g => h.h11 (on_set g (by decide)), fun a q => h.n0 (fun c => a (on_up c)) (fun c => q (on_up c)), fun a p q => h.n1 (fun c => a (on_up c)) (on_set p (by decide)) (fun c => q (on_up c)), fun a p => h.n2 (fun c => a (on_up c)) (on_set p (by decide)), fun a p => h.c0_0 (fun c => a (on_up c)) (on_set p (by decide)), fun a p => h.c0_1 (fun c => a (on_up c)) (on_set p (by decide)), fun a p => h.c1_0 (fun c => a (on_up c)) (on_set p (by decide)), fun g => on_up (h.r7_2 (on_set g (by decide))), fun g => on_up (h.r8_2 (on_set g (by decide))), fun g => on_up (h.r9_2 (on_set g (by decide))), fun g => on_up (h.r9_8 (on_set g (by decide))), fun g => on_up (h.r10_2 (on_set g (by decide))), fun g => on_up (h.r10_8 (on_set g (by decide))), fun g => on_up (h.r10_9 (on_set g (by decide)))⟩
theorem Gu2.t7 (h : Gu2 wr o OW OA P1 V0 I J L v s49 s50 s51 s52 s53 s54 s55 s56 s57 s58 s59 s60) (g2 : on L 2) (g6 : on L 6) : Gu2 wr o OW OA P1 V0 I J (L.setIfInBounds 7 true) v s49 s50 s51 s52 s53 s54 s55 (.pointer (some ⟨wr.heap.size, 0, none⟩)) s57 s58 s59 s60 :=
  ⟨by simp [h.sz], h.gb, h.kw, fun g => h.ow (fun c => g (on_up c)) , fun g => h.oa (on_set g (by decide)), fun g => h.h0 (on_set g (by decide)), fun g => h.h1 (on_set g (by decide)), fun g => h.h2 (on_set g (by decide)), fun g => h.h3 (on_set g (by decide)), fun g => h.h4 (on_set g (by decide)), fun g => h.h5 (on_set g (by decide)), fun g => h.h6 (on_set g (by decide)), fun _ => rfl, fun g => h.h8 (on_set g (by decide)), fun g => h.h9 (on_set g (by decide)), fun g => h.h11 (on_set g (by decide)), fun a q => h.n0 (fun c => a (on_up c)) (fun c => q (on_up c)), fun a p q => h.n1 (fun c => a (on_up c)) (on_set p (by decide)) (fun c => q (on_up c)), fun a p => h.n2 (fun c => a (on_up c)) (on_set p (by decide)), fun a p => h.c0_0 (fun c => a (on_up c)) (on_set p (by decide)), fun a p => h.c0_1 (fun c => a (on_up c)) (on_set p (by decide)), fun a p => h.c1_0 (fun c => a (on_up c)) (on_set p (by decide)), fun _ => on_up g2, fun g => on_up (h.r8_2 (on_set g (by decide))), fun g => on_up (h.r9_2 (on_set g (by decide))), fun g => on_up (h.r9_8 (on_set g (by decide))), fun g => on_up (h.r10_2 (on_set g (by decide))), fun g => on_up (h.r10_8 (on_set g (by decide))), fun g => on_up (h.r10_9 (on_set g (by decide)))⟩
theorem Gu2.t8 (h : Gu2 wr o OW OA P1 V0 I J L v s49 s50 s51 s52 s53 s54 s55 s56 s57 s58 s59 s60) (g7 : on L 7) : Gu2 wr o OW OA P1 V0 I J (L.setIfInBounds 8 true) v s49 s50 s51 s52 s53 s54 s55 s56 (.string ⟨#[48]⟩) s58 s59 s60 :=
  ⟨by simp [h.sz], h.gb, h.kw, fun g => h.ow (fun c => g (on_up c)) , fun g => h.oa (on_set g (by decide)), fun g => h.h0 (on_set g (by decide)), fun g => h.h1 (on_set g (by decide)), fun g => h.h2 (on_set g (by decide)), fun g => h.h3 (on_set g (by decide)), fun g => h.h4 (on_set g (by decide)), fun g => h.h5 (on_set g (by decide)), fun g => h.h6 (on_set g (by decide)), fun g => h.h7 (on_set g (by decide)), fun _ => rfl, fun g => h.h9 (on_set g (by decide)), fun g => h.h11 (on_set g (by decide)), fun a q => h.n0 (fun c => a (on_up c)) (fun c => q (on_up c)), fun a p q => h.n1 (fun c => a (on_up c)) (on_set p (by decide)) (fun c => q (on_up c)), fun a p => h.n2 (fun c => a (on_up c)) (on_set p (by decide)), fun a p => h.c0_0 (fun c => a (on_up c)) (on_set p (by decide)), fun a p => h.c0_1 (fun c => a (on_up c)) (on_set p (by decide)), fun a p => h.c1_0 (fun c => a (on_up c)) (on_set p (by decide)), fun g => on_up (h.r7_2 (on_set g (by decide))), fun _ => on_up (h.r7_2 g7), fun g => on_up (h.r9_2 (on_set g (by decide))), fun _ => on_self (by rw [h.sz]; decide), fun g => on_up (h.r10_2 (on_set g (by decide))), fun _ => on_self (by rw [h.sz]; decide), fun g => on_up (h.r10_9 (on_set g (by decide)))⟩
theorem Gu2.t9 (h : Gu2 wr o OW OA P1 V0 I J L v s49 s50 s51 s52 s53 s54 s55 s56 s57 s58 s59 s60) (g8 : on L 8) (hu : ¬ on L 9) (ha : ¬ on L 10) : Gu2 wr o OW OA P1 V0 I J (L.setIfInBounds 9 true) (v.alloc (.cells #[.string ⟨#[48]⟩] 9)) s49 s50 s51 s52 s53 s54 s55 s56 s57 (.slice (some ⟨v.heap.size, 0, none⟩) 1 1) s59 s60 :=
  ⟨by simp [h.sz], grown_alloc h.gb _, h.kw, fun g => h.kw _ _ (h.ow ha ), fun g => absurd (h.r10_9 (on_set g (by decide))) hu, fun g => h.h0 (on_set g (by decide)), fun g => h.h1 (on_set g (by decide)), fun g => h.h2 (on_set g (by decide)), fun g => h.h3 (on_set g (by decide)), fun g => h.h4 (on_set g (by decide)), fun g => h.h5 (on_set g (by decide)), fun g => h.h6 (on_set g (by decide)), fun g => h.h7 (on_set g (by decide)), fun g => h.h8 (on_set g (by decide)), fun _ => by rw [h.n1 ha (h.r8_2 g8) hu], fun g => h.h11 (on_set g (by decide)), fun a q => absurd (on_up ((h.r8_2 g8))) q, fun a p q => absurd (on_self (by rw [h.sz]; decide)) q, fun a p => by rw [World.size_alloc, h.n1 ha (h.r8_2 g8) hu], fun a p => cell_below (bl_alloc (Below.refl v.heap.size v) _) (h.c0_0 ha (on_set p (by decide))), fun a p => cell_below (bl_alloc (Below.refl v.heap.size v) _) (h.c0_1 ha (on_set p (by decide))), fun a p => by rw [← h.n1 ha (h.r8_2 g8) hu]; simp, fun g => on_up (h.r7_2 (on_set g (by decide))), fun g => on_up (h.r8_2 (on_set g (by decide))), fun _ => on_up (h.r8_2 g8), fun _ => on_up g8, fun g => on_up (h.r10_2 (on_set g (by decide))), fun g => on_up (h.r10_8 (on_set g (by decide))), fun _ => on_self (by rw [h.sz]; decide)⟩
theorem Gu2.t10 (h : Gu2 wr o OW OA P1 V0 I J L v s49 s50 s51 s52 s53 s54 s55 s56 s57 s58 s59 s60) (g1 : on L 1) (g9 : on L 9) {x : Value} (hg : v.grownBy v' o) (hy : OA v' x) : Gu2 wr o OW OA P1 V0 I J (L.setIfInBounds 10 true) v' s49 s50 s51 s52 s53 s54 s55 s56 s57 s58 x s60 :=
  ⟨by simp [h.sz], grown_trans h.gb hg, h.kw, fun g => absurd (on_self (by rw [h.sz]; decide)) g, fun _ => hy, fun g => h.h0 (on_set g (by decide)), fun g => h.h1 (on_set g (by decide)), fun g => h.h2 (on_set g (by decide)), fun g => h.h3 (on_set g (by decide)), fun g => h.h4 (on_set g (by decide)), fun g => h.h5 (on_set g (by decide)), fun g => h.h6 (on_set g (by decide)), fun g => h.h7 (on_set g (by decide)), fun g => h.h8 (on_set g (by decide)), fun g => h.h9 (on_set g (by decide)), fun g => h.h11 (on_set g (by decide)), fun a q => absurd (on_self (by rw [h.sz]; decide)) a, fun a p q => absurd (on_self (by rw [h.sz]; decide)) a, fun a p => absurd (on_self (by rw [h.sz]; decide)) a, fun a p => absurd (on_self (by rw [h.sz]; decide)) a, fun a p => absurd (on_self (by rw [h.sz]; decide)) a, fun a p => absurd (on_self (by rw [h.sz]; decide)) a, fun g => on_up (h.r7_2 (on_set g (by decide))), fun g => on_up (h.r8_2 (on_set g (by decide))), fun g => on_up (h.r9_2 (on_set g (by decide))), fun g => on_up (h.r9_8 (on_set g (by decide))), fun _ => on_up (h.r9_2 g9), fun _ => on_up (h.r9_8 g9), fun _ => on_up g9⟩
theorem Gu2.t11 (h : Gu2 wr o OW OA P1 V0 I J L v s49 s50 s51 s52 s53 s54 s55 s56 s57 s58 s59 s60) : Gu2 wr o OW OA P1 V0 I J (L.setIfInBounds 11 true) v s49 s50 s51 s52 s53 s54 s55 s56 s57 s58 s59 (P1) :=
  ⟨by simp [h.sz], h.gb, h.kw, fun g => h.ow (fun c => g (on_up c)) , fun g => h.oa (on_set g (by decide)), fun g => h.h0 (on_set g (by decide)), fun g => h.h1 (on_set g (by decide)), fun g => h.h2 (on_set g (by decide)), fun g => h.h3 (on_set g (by decide)), fun g => h.h4 (on_set g (by decide)), fun g => h.h5 (on_set g (by decide)), fun g => h.h6 (on_set g (by decide)), fun g => h.h7 (on_set g (by decide)), fun g => h.h8 (on_set g (by decide)), fun g => h.h9 (on_set g (by decide)), fun _ => rfl, fun a q => h.n0 (fun c => a (on_up c)) (fun c => q (on_up c)), fun a p q => h.n1 (fun c => a (on_up c)) (on_set p (by decide)) (fun c => q (on_up c)), fun a p => h.n2 (fun c => a (on_up c)) (on_set p (by decide)), fun a p => h.c0_0 (fun c => a (on_up c)) (on_set p (by decide)), fun a p => h.c0_1 (fun c => a (on_up c)) (on_set p (by decide)), fun a p => h.c1_0 (fun c => a (on_up c)) (on_set p (by decide)), fun g => on_up (h.r7_2 (on_set g (by decide))), fun g => on_up (h.r8_2 (on_set g (by decide))), fun g => on_up (h.r9_2 (on_set g (by decide))), fun g => on_up (h.r9_8 (on_set g (by decide))), fun g => on_up (h.r10_2 (on_set g (by decide))), fun g => on_up (h.r10_8 (on_set g (by decide))), fun g => on_up (h.r10_9 (on_set g (by decide)))⟩
end
theorem b2i_t (w : World) : Calls Tryz.prog 26 #[.bool true] w fun e w' => e = .returned (.int .i64 1) ∧ w' = w := by
  go_enter Tryz.func26, Tryz.ntmps26
  go_wp2
  go_ret
  exact ⟨rfl, rfl⟩
theorem b2i_f (w : World) : Calls Tryz.prog 26 #[.bool false] w fun e w' => e = .returned (.int .i64 0) ∧ w' = w := by
  go_enter Tryz.func26, Tryz.ntmps26
  go_wp2
  go_ret
  exact ⟨rfl, rfl⟩
theorem cf26 : ∀ (args : Array Value) (w : World), (callFunc 26 args).run Tryz.prog w = .ok (.enter 26 args) w := fun a w => run_enter Tryz.func26 (by kernel_rfl) rfl a w
/-- the texts of ones on the slope -/
def slope (q t : Nat) : ByteArray := if t / q = t % q then ⟨#[49]⟩ else ⟨#[48]⟩
theorem slope_next {q i j : Nat} (hj : j < q) : txts ((List.range (i * q + j + 1)).map (slope q)) = txts ((List.range (i * q + j)).map (slope q)) ++ [.string (if i = j then ⟨#[49]⟩ else ⟨#[48]⟩)] := by
  rw [List.range_succ, List.map_append, txts_app]
  have := row_in (i := i) hj
  simp only [List.map_cons, List.map_nil, slope, this.1, this.2]
  rfl
theorem slope_all (q : Nat) : (List.range (q * q)).map (slope q) = (unit q).map R := by
  unfold unit
  rw [grid_map]
  unfold grid
  refine List.map_congr_left fun t _ => ?_
  show slope q t = R (if t / q = t % q then 1 else 0)
  unfold slope
  by_cases h : t / q = t % q
  · rw [if_pos h, if_pos h, R1]
  · rw [if_neg h, if_neg h, R0]

set_option maxHeartbeats 4000000 in
theorem units_long1 (a1 b1 : Option Addr) (c1 d1 m1 n1 : Nat) (aF aZ : Addr) (w : World) (hE : Er w aF aZ)
    (hS1 : ∀ v, Below w.heap.size w v → Calls Tryz.prog 12 #[.agg #[.slice a1 m1 c1, .slice b1 n1 d1]] v fun e w' => e = .returned (.bool false) ∧ Below v.heap.size v w') :
    Calls Tryz.prog 6 #[.agg #[.slice a1 m1 c1, .slice b1 n1 d1]] w fun e w' => e = .returned (.bool true) ∧ Below w.heap.size w w' := by
  have HE : Hid _ := hE
  clear hE
  have HB : Hid (Below w.heap.size w w) := Below.refl _ _
  have hu := bl_alloc (Below.refl w.heap.size w) (.cells #[.slice a1 m1 c1, .slice b1 n1 d1] 25)
  replace HB : Hid _ := bl_trans HB.out hu
  clear hu
  have K10 : (w.alloc (.cells #[.slice a1 m1 c1, .slice b1 n1 d1] 25)).cell? ⟨w.heap.size, 0, none⟩ = some (.slice a1 m1 c1) := by first | rw [World.cell?_alloc_at _ _ _ _ (by simp)]; rfl | simp
  have K11 : (w.alloc (.cells #[.slice a1 m1 c1, .slice b1 n1 d1] 25)).cell? ⟨w.heap.size, 1, none⟩ = some (.slice b1 n1 d1) := by first | rw [World.cell?_alloc_at _ _ _ _ (by simp)]; rfl | simp
  go_enter Tryz.func6, Tryz.ntmps6
  go_wp2_with fail
  refine (hS1 _ HB.out).mono ?_
  rintro e w1 ⟨rfl, hb⟩
  have hu := hb
  replace HB : Hid _ := bl_trans HB.out hu
  replace K10 := cell_below hu K10
  replace K11 := cell_below hu K11
  clear hu
  clear hb
  go_wp2_with fail
  refine (awake_any aF aZ _ (HE.out.below HB.out)).mono ?_
  rintro e w2 ⟨rfl, hb⟩
  have hu := hb
  replace HB : Hid _ := bl_trans HB.out hu
  replace K10 := cell_below hu K10
  replace K11 := cell_below hu K11
  clear hu
  clear hb
  go_wp2
  go_ret
  exact ⟨rfl, HB.out⟩

set_option maxHeartbeats 4000000 in
theorem units_bad (a1 b1 : Option Addr) (c1 d1 m1 n1 : Nat) (aF aZ : Addr) (w : World) (hE : Er w aF aZ)
    (hS1 : ∀ v, Below w.heap.size w v → Calls Tryz.prog 12 #[.agg #[.slice a1 m1 c1, .slice b1 n1 d1]] v fun e w' => e = .returned (.bool true) ∧ Below v.heap.size v w')
    (hR1 : ∀ v, Below w.heap.size w v → Calls Tryz.prog 16 #[.agg #[.slice a1 m1 c1, .slice b1 n1 d1]] v fun e w' => e = .returned (.bool false) ∧ Below v.heap.size v w') :
    Calls Tryz.prog 6 #[.agg #[.slice a1 m1 c1, .slice b1 n1 d1]] w fun e w' => e = .returned (.bool true) ∧ Below w.heap.size w w' := by
  have HE : Hid _ := hE
  clear hE
  have HB : Hid (Below w.heap.size w w) := Below.refl _ _
  have hu := bl_alloc (Below.refl w.heap.size w) (.cells #[.slice a1 m1 c1, .slice b1 n1 d1] 25)
  replace HB : Hid _ := bl_trans HB.out hu
  clear hu
  have K10 : (w.alloc (.cells #[.slice a1 m1 c1, .slice b1 n1 d1] 25)).cell? ⟨w.heap.size, 0, none⟩ = some (.slice a1 m1 c1) := by first | rw [World.cell?_alloc_at _ _ _ _ (by simp)]; rfl | simp
  have K11 : (w.alloc (.cells #[.slice a1 m1 c1, .slice b1 n1 d1] 25)).cell? ⟨w.heap.size, 1, none⟩ = some (.slice b1 n1 d1) := by first | rw [World.cell?_alloc_at _ _ _ _ (by simp)]; rfl | simp
  go_enter Tryz.func6, Tryz.ntmps6
  go_wp2_with fail
  refine (hS1 _ HB.out).mono ?_
  rintro e w1 ⟨rfl, hb⟩
  have hu := hb
  replace HB : Hid _ := bl_trans HB.out hu
  replace K10 := cell_below hu K10
  replace K11 := cell_below hu K11
  clear hu
  clear hb
  go_wp2_with fail
  refine (hR1 _ HB.out).mono ?_
  rintro e w2 ⟨rfl, hb⟩
  have hu := hb
  replace HB : Hid _ := bl_trans HB.out hu
  replace K10 := cell_below hu K10
  replace K11 := cell_below hu K11
  clear hu
  clear hb
  go_wp2_with fail
  refine (awake_any aF aZ _ (HE.out.below HB.out)).mono ?_
  rintro e w3 ⟨rfl, hb⟩
  have hu := hb
  replace HB : Hid _ := bl_trans HB.out hu
  replace K10 := cell_below hu K10
  replace K11 := cell_below hu K11
  clear hu
  clear hb
  go_wp2
  go_ret
  exact ⟨rfl, HB.out⟩

set_option maxHeartbeats 4000000 in
theorem units_flat (a1 b1 : Option Addr) (c1 d1 m1 n1 : Nat) (aF aZ : Addr) (w : World) (hE : Er w aF aZ)
    (hS1 : ∀ v, Below w.heap.size w v → Calls Tryz.prog 12 #[.agg #[.slice a1 m1 c1, .slice b1 n1 d1]] v fun e w' => e = .returned (.bool true) ∧ Below v.heap.size v w')
    (hR1 : ∀ v, Below w.heap.size w v → Calls Tryz.prog 16 #[.agg #[.slice a1 m1 c1, .slice b1 n1 d1]] v fun e w' => e = .returned (.bool true) ∧ Below v.heap.size v w')
    (hm1 : ((m1 : Int) != 2) = true) (hm2 : ((m1 : Int) == 2) = false) :
    Calls Tryz.prog 6 #[.agg #[.slice a1 m1 c1, .slice b1 n1 d1]] w fun e w' => e = .returned (.bool true) ∧ Below w.heap.size w w' := by
  have HE : Hid _ := hE
  clear hE
  have HB : Hid (Below w.heap.size w w) := Below.refl _ _
  have hu := bl_alloc (Below.refl w.heap.size w) (.cells #[.slice a1 m1 c1, .slice b1 n1 d1] 25)
  replace HB : Hid _ := bl_trans HB.out hu
  clear hu
  have K10 : (w.alloc (.cells #[.slice a1 m1 c1, .slice b1 n1 d1] 25)).cell? ⟨w.heap.size, 0, none⟩ = some (.slice a1 m1 c1) := by first | rw [World.cell?_alloc_at _ _ _ _ (by simp)]; rfl | simp
  have K11 : (w.alloc (.cells #[.slice a1 m1 c1, .slice b1 n1 d1] 25)).cell? ⟨w.heap.size, 1, none⟩ = some (.slice b1 n1 d1) := by first | rw [World.cell?_alloc_at _ _ _ _ (by simp)]; rfl | simp
  go_enter Tryz.func6, Tryz.ntmps6
  go_wp2_with fail
  refine (hS1 _ HB.out).mono ?_
  rintro e w1 ⟨rfl, hb⟩
  have hu := hb
  replace HB : Hid _ := bl_trans HB.out hu
  replace K10 := cell_below hu K10
  replace K11 := cell_below hu K11
  clear hu
  clear hb
  go_wp2_with fail
  refine (hR1 _ HB.out).mono ?_
  rintro e w2 ⟨rfl, hb⟩
  have hu := hb
  replace HB : Hid _ := bl_trans HB.out hu
  replace K10 := cell_below hu K10
  replace K11 := cell_below hu K11
  clear hu
  clear hb
  go_wp2_with fail
  refine (awake_any aF aZ _ (HE.out.below HB.out)).mono ?_
  rintro e w3 ⟨rfl, hb⟩
  have hu := hb
  replace HB : Hid _ := bl_trans HB.out hu
  replace K10 := cell_below hu K10
  replace K11 := cell_below hu K11
  clear hu
  clear hb
  go_wp2
  go_ret
  exact ⟨rfl, HB.out⟩

set_option maxHeartbeats 4000000 in
theorem units_wide (x y : Nat) (b1 : Option Addr) (c1 d1 n1 : Nat) (p q : Nat) (qs : List Rat) (aF aZ : Addr) (w : World) (hE : Er w aF aZ)
    (hS1 : ∀ v, Below w.heap.size w v → Calls Tryz.prog 12 #[.agg #[.slice (some ⟨x, y, none⟩) 2 c1, .slice b1 n1 d1]] v fun e w' => e = .returned (.bool true) ∧ Below v.heap.size v w')
    (hR1 : ∀ v, Below w.heap.size w v → Calls Tryz.prog 16 #[.agg #[.slice (some ⟨x, y, none⟩) 2 c1, .slice b1 n1 d1]] v fun e w' => e = .returned (.bool true) ∧ Below v.heap.size v w')
    (hT : Tt w 0 (some ⟨x, y, none⟩) b1 [(p : Int), (q : Int)] 2 n1 qs 40)
    (KX0 : w.cell? ⟨x, y, none⟩ = some (.int .i64 (p : Int))) (KX1 : w.cell? ⟨x, y + 1, none⟩ = some (.int .i64 (q : Int))) (hq8 : 8 < q) :
    Calls Tryz.prog 6 #[.agg #[.slice (some ⟨x, y, none⟩) 2 c1, .slice b1 n1 d1]] w fun e w' => e = .returned (.bool true) ∧ Below w.heap.size w w' := by
  have HE : Hid _ := hE
  clear hE
  have HB : Hid (Below w.heap.size w w) := Below.refl _ _
  clear hT
  have hu := bl_alloc (Below.refl w.heap.size w) (.cells #[.slice (some ⟨x, y, none⟩) 2 c1, .slice b1 n1 d1] 25)
  replace HB : Hid _ := bl_trans HB.out hu
  replace KX0 := cell_below hu KX0
  replace KX1 := cell_below hu KX1
  clear hu
  have K10 : (w.alloc (.cells #[.slice (some ⟨x, y, none⟩) 2 c1, .slice b1 n1 d1] 25)).cell? ⟨w.heap.size, 0, none⟩ = some (.slice (some ⟨x, y, none⟩) 2 c1) := by first | rw [World.cell?_alloc_at _ _ _ _ (by simp)]; rfl | simp
  have K11 : (w.alloc (.cells #[.slice (some ⟨x, y, none⟩) 2 c1, .slice b1 n1 d1] 25)).cell? ⟨w.heap.size, 1, none⟩ = some (.slice b1 n1 d1) := by first | rw [World.cell?_alloc_at _ _ _ _ (by simp)]; rfl | simp
  go_enter Tryz.func6, Tryz.ntmps6
  go_wp2_with fail
  refine (hS1 _ HB.out).mono ?_
  rintro e w1 ⟨rfl, hb⟩
  have hu := hb
  replace HB : Hid _ := bl_trans HB.out hu
  replace KX0 := cell_below hu KX0
  replace KX1 := cell_below hu KX1
  replace K10 := cell_below hu K10
  replace K11 := cell_below hu K11
  clear hu
  clear hb
  go_wp2_with fail
  refine (hR1 _ HB.out).mono ?_
  rintro e w2 ⟨rfl, hb⟩
  have hu := hb
  replace HB : Hid _ := bl_trans HB.out hu
  replace KX0 := cell_below hu KX0
  replace KX1 := cell_below hu KX1
  replace K10 := cell_below hu K10
  replace K11 := cell_below hu K11
  clear hu
  clear hb
  go_wp2_with fail
  refine (awake_any aF aZ _ (HE.out.below HB.out)).mono ?_
  rintro e w3 ⟨rfl, hb⟩
  have hu := hb
  replace HB : Hid _ := bl_trans HB.out hu
  replace KX0 := cell_below hu KX0
  replace KX1 := cell_below hu KX1
  replace K10 := cell_below hu K10
  replace K11 := cell_below hu K11
  clear hu
  clear hb
  go_wp2
  go_ret
  exact ⟨rfl, HB.out⟩

set_option maxHeartbeats 4000000 in
theorem units_good (x y : Nat) (b1 : Option Addr) (c1 d1 n1 : Nat) (p q : Nat) (qs : List Rat) (aF aZ : Addr) (w : World) (hE : Er w aF aZ)
    (hS1 : ∀ v, Below w.heap.size w v → Calls Tryz.prog 12 #[.agg #[.slice (some ⟨x, y, none⟩) 2 c1, .slice b1 n1 d1]] v fun e w' => e = .returned (.bool true) ∧ Below v.heap.size v w')
    (hR1 : ∀ v, Below w.heap.size w v → Calls Tryz.prog 16 #[.agg #[.slice (some ⟨x, y, none⟩) 2 c1, .slice b1 n1 d1]] v fun e w' => e = .returned (.bool true) ∧ Below v.heap.size v w')
    (hT : Tt w 0 (some ⟨x, y, none⟩) b1 [(p : Int), (q : Int)] 2 n1 qs 40)
    (KX0 : w.cell? ⟨x, y, none⟩ = some (.int .i64 (p : Int))) (KX1 : w.cell? ⟨x, y + 1, none⟩ = some (.int .i64 (q : Int))) (hq8 : ¬ 8 < q) :
    Calls Tryz.prog 6 #[.agg #[.slice (some ⟨x, y, none⟩) 2 c1, .slice b1 n1 d1]] w fun e w' => e = .returned (.bool true) ∧ Below w.heap.size w w' := by
  have HE : Hid _ := hE
  clear hE
  have HB : Hid (Below w.heap.size w w) := Below.refl _ _
  have HT0 : Hid _ := hT
  clear hT
  have hu := bl_alloc (Below.refl w.heap.size w) (.cells #[.slice (some ⟨x, y, none⟩) 2 c1, .slice b1 n1 d1] 25)
  replace HB : Hid _ := bl_trans HB.out hu
  replace KX0 := cell_below hu KX0
  replace KX1 := cell_below hu KX1
  clear hu
  have K10 : (w.alloc (.cells #[.slice (some ⟨x, y, none⟩) 2 c1, .slice b1 n1 d1] 25)).cell? ⟨w.heap.size, 0, none⟩ = some (.slice (some ⟨x, y, none⟩) 2 c1) := by first | rw [World.cell?_alloc_at _ _ _ _ (by simp)]; rfl | simp
  have K11 : (w.alloc (.cells #[.slice (some ⟨x, y, none⟩) 2 c1, .slice b1 n1 d1] 25)).cell? ⟨w.heap.size, 1, none⟩ = some (.slice b1 n1 d1) := by first | rw [World.cell?_alloc_at _ _ _ _ (by simp)]; rfl | simp
  go_enter Tryz.func6, Tryz.ntmps6
  go_wp2_with fail
  refine (hS1 _ HB.out).mono ?_
  rintro e w1 ⟨rfl, hb⟩
  have hu := hb
  replace HB : Hid _ := bl_trans HB.out hu
  replace KX0 := cell_below hu KX0
  replace KX1 := cell_below hu KX1
  replace K10 := cell_below hu K10
  replace K11 := cell_below hu K11
  clear hu
  clear hb
  go_wp2_with fail
  refine (hR1 _ HB.out).mono ?_
  rintro e w2 ⟨rfl, hb⟩
  have hu := hb
  replace HB : Hid _ := bl_trans HB.out hu
  replace KX0 := cell_below hu KX0
  replace KX1 := cell_below hu KX1
  replace K10 := cell_below hu K10
  replace K11 := cell_below hu K11
  clear hu
  have hb9 := HB.out
  clear hb
  obtain ⟨i0, hi, hz0, hz1, hz2⟩ := info_parts inf9
  have u1 := bl_alloc (bl_alloc (Below.refl w2.heap.size w2) (.cells #[.int .i64 (q : Int), .int .i64 (q : Int)] 3)) (.cells #[.slice (some ⟨w2.heap.size, 0, none⟩) 2 2, .slice none 0 0] 25)
  replace HB : Hid _ := bl_trans HB.out u1
  have l10 := cell_below u1 K10
  have l11 := cell_below u1 K11
  have hlo : w.heap.size ≤ w2.heap.size := hb9.size
  clear u1 hb9
  go_wp2_with fail
  have s0 : ((w2.alloc (.cells #[.int .i64 (q : Int), .int .i64 (q : Int)] 3)).alloc (.cells #[.slice (some ⟨w2.heap.size, 0, none⟩) 2 2, .slice none 0 0] 25)).cell? ⟨w2.heap.size, 0, none⟩ = some (.int .i64 (q : Int)) := cell_below (bl_alloc (Below.refl _ _) _) (by simp)
  have s1 : ((w2.alloc (.cells #[.int .i64 (q : Int), .int .i64 (q : Int)] 3)).alloc (.cells #[.slice (some ⟨w2.heap.size, 0, none⟩) 2 2, .slice none 0 0] 25)).cell? ⟨w2.heap.size, 1, none⟩ = some (.int .i64 (q : Int)) := cell_below (bl_alloc (Below.refl _ _) _) (by simp)
  have r0 : ((w2.alloc (.cells #[.int .i64 (q : Int), .int .i64 (q : Int)] 3)).alloc (.cells #[.slice (some ⟨w2.heap.size, 0, none⟩) 2 2, .slice none 0 0] 25)).cell? ⟨w2.heap.size + 1, 0, none⟩ = some (.slice (some ⟨w2.heap.size, 0, none⟩) 2 2) := by simp
  have r1 : ((w2.alloc (.cells #[.int .i64 (q : Int), .int .i64 (q : Int)] 3)).alloc (.cells #[.slice (some ⟨w2.heap.size, 0, none⟩) 2 2, .slice none 0 0] 25)).cell? ⟨w2.heap.size + 1, 1, none⟩ = some (.slice none 0 0) := by simp
  have fr : ((w2.alloc (.cells #[.int .i64 (q : Int), .int .i64 (q : Int)] 3)).alloc (.cells #[.slice (some ⟨w2.heap.size, 0, none⟩) 2 2, .slice none 0 0] 25)).frozen? ⟨w2.heap.size + 1, 1, none⟩ = false := by simp
  have HSZ : Hid (w.heap.size ≤ w2.heap.size ∧ ((w2.alloc (.cells #[.int .i64 (q : Int), .int .i64 (q : Int)] 3)).alloc (.cells #[.slice (some ⟨w2.heap.size, 0, none⟩) 2 2, .slice none 0 0] 25)).heap.size = w2.heap.size + 1 + 1) := ⟨hlo, by simp⟩
  clear K10 K11 KX0 KX1 hlo
  generalize ((w2.alloc (.cells #[.int .i64 (q : Int), .int .i64 (q : Int)] 3)).alloc (.cells #[.slice (some ⟨w2.heap.size, 0, none⟩) 2 2, .slice none 0 0] 25)) = u at *
  go_loopw [42] (fun i wr => ∃ (k : Nat) (v : Value), k ≤ q ∧ i = .int .i64 k ∧ Gz u wr (w2.heap.size + 1) (.slice (some ⟨w2.heap.size, 0, none⟩) 2 2) v (k * q) (txts ((List.range (k * q)).map (slope q)))) (fun i _ => q - (intOf i).toNat)
  case atStart => exact ⟨0, .slice none 0 0, by omega, rfl, by rw [Nat.zero_mul]; exact Gz.start r0 r1 fr⟩
  case round =>
  obtain ⟨k, v, hk, rfl, hG⟩ := hrel
  by_cases h : k < q
  · have HG : Hid _ := hG
    clear hG
    go_wp2_with fail
    go_loopw [46] (fun i wr => ∃ (j : Nat) (v : Value), j ≤ q ∧ i = .int .i64 j ∧ Gz u wr (w2.heap.size + 1) (.slice (some ⟨w2.heap.size, 0, none⟩) 2 2) v (k * q + j) (txts ((List.range (k * q + j)).map (slope q)))) (fun i _ => q - (intOf i).toNat)
    case atStart => exact ⟨0, _, by omega, rfl, HG.out⟩
    case round =>
    clear HG
    obtain ⟨j, v0, hj, rfl, hG⟩ := hrel
    by_cases h' : j < q
    · have HKQ : Hid (k * q + j ≤ 64) := by
        have h1 := in_grid h h'
        have h2 : q * q ≤ 8 * 8 := Nat.mul_le_mul (by omega) (by omega)
        unfold Hid; omega
      have z1 := hG.c1
      have HX9 : Hid _ := slope_next (i := k) h'
      obtain ⟨KK, hKK⟩ : ∃ KK, k * q + j = KK := ⟨_, rfl⟩
      rw [hKK] at HX9 HKQ hG
      have HKK : Hid _ := hKK
      clear hKK
      generalize (txts ((List.range (KK)).map (slope q))) = L0 at *
      have HG : Hid _ := hG
      clear hG
      by_cases hij : k = j
      · subst hij
        rw [if_pos rfl] at HX9
        go_upto_region 11 with fail
        have HZ1 : Hid (wr.cell? ⟨w2.heap.size + 1, 1, none⟩ = some v0) := HG.out.c1
        have HNE : Hid (some (w2.heap.size + 1) ≠ v0.ownBlock) := fun e => by have := (World.ownsRow.lt HG.out.ow _ e.symm).1; have := HG.out.hi; omega
        clear z1
        refine region_inv_last 12 (by kernel_rfl) (by kernel_rfl) (fun L a v => ∃ s49 s50 s51 s52 s53 s54 s55 s56 s57 s58 s59 s60, a = ⟨#[Value.agg #[Value.slice (some { block := x, off := y }) 2 c1, Value.slice b1 n1 d1], Value.pointer (some { block := w.heap.size, off := 0 }), Value.bool false, Value.int IntKind.i64 (q : Int), Value.pointer (some { block := w2.heap.size + 1, off := 0 }), Value.int IntKind.i64 (k : Int), Value.int IntKind.i64 (k : Int), undef, undef, undef, undef, Value.agg #[Value.slice (some { block := x, off := y }) 2 c1, Value.slice b1 n1 d1], Value.bool true, Value.bool false, Value.bool false, Value.agg #[Value.slice (some { block := x, off := y }) 2 c1, Value.slice b1 n1 d1], Value.bool true, Value.bool false, Value.bool false, Value.bool false, Value.pointer (some { block := w.heap.size, off := 0 }), Value.slice (some { block := x, off := y }) 2 c1, Value.int IntKind.i64 2, Value.bool false, Value.bool false, Value.bool false, Value.pointer (some { block := w.heap.size, off := 0 }), Value.slice (some { block := x, off := y }) 2 c1, Value.pointer (some { block := x, off := y + 1 }), Value.int IntKind.i64 (q : Int), Value.bool (decide ((8 : Int) < (q : Int))), Value.bool (decide ((8 : Int) < (q : Int))), undef, Value.pointer (some { block := w.heap.size, off := 0 }), Value.slice (some { block := x, off := y }) 2 c1, Value.pointer (some { block := x, off := y + 1 }), Value.int IntKind.i64 (q : Int), Value.int IntKind.i64 (q : Int), Value.int IntKind.i64 (q : Int), Value.slice (some { block := w2.heap.size, off := 0 }) 2 2, Value.agg #[Value.slice (some { block := w2.heap.size, off := 0 }) 2 2, Value.slice none 0 0], Value.int IntKind.i64 (q : Int), Value.int IntKind.i64 (k : Int), Value.bool true, Value.int IntKind.i64 (k : Int), Value.int IntKind.i64 (q : Int), Value.int IntKind.i64 (k : Int), Value.bool true, Value.int IntKind.i64 (k : Int), s49, s50, s51, s52, s53, s54, s55, s56, s57, s58, s59, s60, u61, u62, undef, undef, undef, undef, undef, undef, undef, undef, undef, undef, undef, undef, undef, undef, undef, undef, undef, undef, undef, undef, undef, undef, undef, undef, undef, undef, ], []⟩ ∧ Gu1 wr (v0.ownBlock) (fun v => v.ownsRow u.heap.size 9 1 v0 KK L0) (fun v x => v.ownsRow u.heap.size 9 1 x (KK + 1) (L0 ++ [.string ⟨#[49]⟩])) (.pointer (some ⟨w2.heap.size + 1, 1, none⟩)) (v0) (.int .i64 (k : Int)) (.int .i64 (k : Int)) L v s49 s50 s51 s52 s53 s54 s55 s56 s57 s58 s59 s60) ?_ ?_ ?_
        · exact ⟨_, _, _, _, _, _, _, _, _, _, _, _, rfl, ⟨by simp, grown_below (bl_drew (Below.refl _ _)), fun u x h => World.ownsRow.alloc h _, fun _ => HG.out.ow, fun g => absurd g (by simp [on]), fun g => absurd g (by simp [on]), fun g => absurd g (by simp [on]), fun g => absurd g (by simp [on]), fun g => absurd g (by simp [on]), fun g => absurd g (by simp [on]), fun g => absurd g (by simp [on]), fun g => absurd g (by simp [on]), fun g => absurd g (by simp [on]), fun g => absurd g (by simp [on]), fun g => absurd g (by simp [on]), fun g => absurd g (by simp [on]), fun _ _ => rfl, fun _ g _ => absurd g (by simp [on]), fun _ g => absurd g (by simp [on]), fun _ g => absurd g (by simp [on]), fun _ g => absurd g (by simp [on]), fun _ g => absurd g (by simp [on]), fun g => absurd g (by simp [on]), fun g => absurd g (by simp [on]), fun g => absurd g (by simp [on]), fun g => absurd g (by simp [on]), fun g => absurd g (by simp [on]), fun g => absurd g (by simp [on]), fun g => absurd g (by simp [on])⟩⟩
        · intro L a v i hL9 hI hrd
          obtain ⟨s49, s50, s51, s52, s53, s54, s55, s56, s57, s58, s59, s60, rfl, hP⟩ := hI
          obtain ⟨hu, o9, ho, haf⟩ := mem_ready.1 hrd
          have hlt : i < 12 := by
            have := (Array.getElem?_eq_some_iff.1 ho).1
            simp at this
            omega
          have z1v := grown_cell hP.gb HZ1.out HNE.out
          rcases (by omega : i = 0 ∨ i = 1 ∨ i = 2 ∨ i = 3 ∨ i = 4 ∨ i = 5 ∨ i = 6 ∨ i = 7 ∨ i = 8 ∨ i = 9 ∨ i = 10 ∨ i = 11) with rfl | rfl | rfl | rfl | rfl | rfl | rfl | rfl | rfl | rfl | rfl | rfl
          all_goals (simp only [List.take_succ_cons, List.take_zero, List.getElem?_toArray, List.getElem?_cons_zero, List.getElem?_cons_succ, Option.some.injEq] at ho; subst ho; replace hu := off_of hu)
          · refine step_run rfl rfl ?_
            have hP2 := hP.t0 
            go_simp
            exact ⟨_, _, _, _, _, _, _, _, _, _, _, _, ⟨rfl, rfl, rfl, rfl, rfl, rfl, rfl, rfl, rfl, rfl, rfl, rfl⟩, hP2⟩
          · have g0 := haf { on := 0, ground := .data } (by simp) rfl
            have e0 := (hP.h0 g0).symm
            subst e0
            refine step_run rfl rfl ?_
            have hP2 := hP.t1 g0
            go_simp
            exact ⟨_, _, _, _, _, _, _, _, _, _, _, _, ⟨rfl, rfl, rfl, rfl, rfl, rfl, rfl, rfl, rfl, rfl, rfl, rfl⟩, hP2⟩
          · have ha : ¬ on L 10 := fun c => hu (hP.r10_2 c)
            refine step_run rfl rfl ?_
            have hP2 := hP.t2  hu ha
            go_simp
            exact ⟨_, _, _, _, _, _, _, _, _, _, _, _, ⟨rfl, rfl, rfl, rfl, rfl, rfl, rfl, rfl, rfl, rfl, rfl, rfl⟩, hP2⟩
          · refine step_run rfl rfl ?_
            have hP2 := hP.t3 
            go_simp
            exact ⟨_, _, _, _, _, _, _, _, _, _, _, _, ⟨rfl, rfl, rfl, rfl, rfl, rfl, rfl, rfl, rfl, rfl, rfl, rfl⟩, hP2⟩
          · refine step_run rfl rfl ?_
            have hP2 := hP.t4 
            go_simp
            exact ⟨_, _, _, _, _, _, _, _, _, _, _, _, ⟨rfl, rfl, rfl, rfl, rfl, rfl, rfl, rfl, rfl, rfl, rfl, rfl⟩, hP2⟩
          · have g3 := haf { on := 3, ground := .data } (by simp) rfl
            have g4 := haf { on := 4, ground := .data } (by simp) rfl
            have e3 := (hP.h3 g3).symm
            have e4 := (hP.h4 g4).symm
            subst e3 e4
            refine step_run rfl rfl ?_
            have hP2 := hP.t5 g3 g4
            go_simp
            exact ⟨_, _, _, _, _, _, _, _, _, _, _, _, ⟨rfl, rfl, rfl, rfl, rfl, rfl, rfl, rfl, rfl, rfl, rfl, rfl⟩, hP2⟩
          · have g5 := haf { on := 5, ground := .data } (by simp) rfl
            have e5 := (hP.h5 g5).symm
            subst e5
            refine step_run rfl rfl ?_
            unfold Oper.wp
            rw [run_one cf26 (.tmp 54) 4 rfl _ rfl]
            refine (b2i_t _).mono ?_
            rintro e v2 ⟨rfl, rfl⟩
            have hP2 := hP.t6 g5
            go_simp
            exact ⟨_, _, _, _, _, _, _, _, _, _, _, _, ⟨rfl, rfl, rfl, rfl, rfl, rfl, rfl, rfl, rfl, rfl, rfl, rfl⟩, hP2⟩
          · have g2 := haf { on := 2, ground := .data } (by simp) rfl
            have g6 := haf { on := 6, ground := .data } (by simp) rfl
            have e2 := (hP.h2 g2).symm
            have e6 := (hP.h6 g6).symm
            subst e2 e6
            refine step_run rfl rfl ?_
            have hP2 := hP.t7 g2 g6
            go_simp
            exact ⟨_, _, _, _, _, _, _, _, _, _, _, _, ⟨rfl, rfl, rfl, rfl, rfl, rfl, rfl, rfl, rfl, rfl, rfl, rfl⟩, hP2⟩
          · have g7 := haf { on := 7, ground := .data } (by simp) rfl
            have e7 := (hP.h7 g7).symm
            have ha : ¬ on L 10 := fun c => hu (hP.r10_8 c)
            have hc := hP.c0_1 ha (hP.r7_2 g7)
            subst e7
            refine step_run rfl rfl ?_
            have hP2 := hP.t8 g7
            go_simp
            exact ⟨_, _, _, _, _, _, _, _, _, _, _, _, ⟨rfl, rfl, rfl, rfl, rfl, rfl, rfl, rfl, rfl, rfl, rfl, rfl⟩, hP2⟩
          · have g8 := haf { on := 8, ground := .data } (by simp) rfl
            have e8 := (hP.h8 g8).symm
            have ha : ¬ on L 10 := fun c => hu (hP.r10_9 c)
            subst e8
            refine step_run rfl rfl ?_
            have hP2 := hP.t9 g8 hu ha
            go_simp
            exact ⟨_, _, _, _, _, _, _, _, _, _, _, _, ⟨rfl, rfl, rfl, rfl, rfl, rfl, rfl, rfl, rfl, rfl, rfl, rfl⟩, hP2⟩
          · have g1 := haf { on := 1, ground := .data } (by simp) rfl
            have g9 := haf { on := 9, ground := .data } (by simp) rfl
            have e1 := (hP.h1 g1).symm
            have e9 := (hP.h9 g9).symm
            subst e1 e9
            refine step_run rfl rfl ?_
            have hc := hP.c1_0 (fun c => hu c) g9
            have hOW9 := hP.ow (fun c => hu c)
            refine wp_append_own v (.tmp 50) (.tmp 58) 23 rfl u.heap.size 9 i0 (.string ByteArray.empty) 1 16 Tryz.underlying23 hi hz0 hz1 hz2 rfl (by decide) v0 KK L0 rfl hOW9 ⟨wr.heap.size + 1, 0, none⟩ 1 1 [.string ⟨#[49]⟩] rfl rfl (one_new hc) (by simp [Value.oneCell']) (by have := HKQ.out; unfold maxLen; omega) (by have := HKQ.out; omega) (by have := HG.out.sz; have := hP.gb.size; omega) (fun v' w' ho' hg' _ => ?_)
            have hP2 := hP.t10 g1 g9 hg' ho'
            go_simp
            exact ⟨_, _, _, _, _, _, _, _, _, _, _, _, ⟨rfl, rfl, rfl, rfl, rfl, rfl, rfl, rfl, rfl, rfl, rfl, rfl⟩, hP2⟩
          · refine step_run rfl rfl ?_
            have hP2 := hP.t11 
            go_simp
            exact ⟨_, _, _, _, _, _, _, _, _, _, _, _, ⟨rfl, rfl, rfl, rfl, rfl, rfl, rfl, rfl, rfl, rfl, rfl, rfl⟩, hP2⟩
        · intro L a v hL9 hI hon
          obtain ⟨s49, s50, s51, s52, s53, s54, s55, s56, s57, s58, s59, s60, rfl, hP⟩ := hI
          have e0 := (hP.h0 (hon 0 (by decide))).symm
          have e1 := (hP.h1 (hon 1 (by decide))).symm
          have e2 := (hP.h2 (hon 2 (by decide))).symm
          have e3 := (hP.h3 (hon 3 (by decide))).symm
          have e4 := (hP.h4 (hon 4 (by decide))).symm
          have e5 := (hP.h5 (hon 5 (by decide))).symm
          have e6 := (hP.h6 (hon 6 (by decide))).symm
          have e7 := (hP.h7 (hon 7 (by decide))).symm
          have e8 := (hP.h8 (hon 8 (by decide))).symm
          have e9 := (hP.h9 (hon 9 (by decide))).symm
          have e11 := (hP.h11 (hon 11 (by decide))).symm
          have hOA := hP.oa (hon 10 (by decide))
          have hGB := hP.gb
          clear hP hon hL9
          subst e0 e1 e2 e3 e4 e5 e6 e7 e8 e9 e11
          refine step_run rfl rfl ?_
          obtain ⟨a4, c4, ev, _⟩ := Row.of_own hOA
          subst ev
          have hbl : v.heap[w2.heap.size + 1]? = wr.heap[w2.heap.size + 1]? := hGB.block _ (by have := HG.out.hi; have := HG.out.sz; omega) HNE.out
          have hc4 : v.cell? ⟨w2.heap.size + 1, 1, none⟩ = some v0 := by rw [World.cell?_of_block (w := wr) hbl]; exact HG.out.c1
          have hf4 : v.frozen? ⟨w2.heap.size + 1, 1, none⟩ = false := by rw [World.frozen?_of_block (w := wr) hbl]; exact HG.out.f1
          have HF : Hid _ := HG.out.next (Below.refl wr.heap.size wr) hGB hOA
          clear hOA hGB hbl HG HZ1 HNE
          go_simp
          go_wp2
          go_roundw
          case rel => exact ⟨k + 1, .slice a4 (KK + 1) c4, by omega, by go_num, by rw [← Nat.add_assoc, HKK.out, HX9.out]; exact HF.out⟩
          case measure => simp [intOf]; omega
      · rw [if_neg hij] at HX9
        have hd : ((k : Int) == (j : Int)) = false := by simp; omega
        go_upto_region 11 with fail
        have HZ1 : Hid (wr.cell? ⟨w2.heap.size + 1, 1, none⟩ = some v0) := HG.out.c1
        have HNE : Hid (some (w2.heap.size + 1) ≠ v0.ownBlock) := fun e => by have := (World.ownsRow.lt HG.out.ow _ e.symm).1; have := HG.out.hi; omega
        clear z1
        refine region_inv_last 12 (by kernel_rfl) (by kernel_rfl) (fun L a v => ∃ s49 s50 s51 s52 s53 s54 s55 s56 s57 s58 s59 s60, a = ⟨#[Value.agg #[Value.slice (some { block := x, off := y }) 2 c1, Value.slice b1 n1 d1], Value.pointer (some { block := w.heap.size, off := 0 }), Value.bool false, Value.int IntKind.i64 (q : Int), Value.pointer (some { block := w2.heap.size + 1, off := 0 }), Value.int IntKind.i64 (k : Int), Value.int IntKind.i64 (j : Int), undef, undef, undef, undef, Value.agg #[Value.slice (some { block := x, off := y }) 2 c1, Value.slice b1 n1 d1], Value.bool true, Value.bool false, Value.bool false, Value.agg #[Value.slice (some { block := x, off := y }) 2 c1, Value.slice b1 n1 d1], Value.bool true, Value.bool false, Value.bool false, Value.bool false, Value.pointer (some { block := w.heap.size, off := 0 }), Value.slice (some { block := x, off := y }) 2 c1, Value.int IntKind.i64 2, Value.bool false, Value.bool false, Value.bool false, Value.pointer (some { block := w.heap.size, off := 0 }), Value.slice (some { block := x, off := y }) 2 c1, Value.pointer (some { block := x, off := y + 1 }), Value.int IntKind.i64 (q : Int), Value.bool (decide ((8 : Int) < (q : Int))), Value.bool (decide ((8 : Int) < (q : Int))), undef, Value.pointer (some { block := w.heap.size, off := 0 }), Value.slice (some { block := x, off := y }) 2 c1, Value.pointer (some { block := x, off := y + 1 }), Value.int IntKind.i64 (q : Int), Value.int IntKind.i64 (q : Int), Value.int IntKind.i64 (q : Int), Value.slice (some { block := w2.heap.size, off := 0 }) 2 2, Value.agg #[Value.slice (some { block := w2.heap.size, off := 0 }) 2 2, Value.slice none 0 0], Value.int IntKind.i64 (q : Int), Value.int IntKind.i64 (k : Int), Value.bool true, Value.int IntKind.i64 (k : Int), Value.int IntKind.i64 (q : Int), Value.int IntKind.i64 (j : Int), Value.bool true, Value.int IntKind.i64 (j : Int), s49, s50, s51, s52, s53, s54, s55, s56, s57, s58, s59, s60, u61, u62, undef, undef, undef, undef, undef, undef, undef, undef, undef, undef, undef, undef, undef, undef, undef, undef, undef, undef, undef, undef, undef, undef, undef, undef, undef, undef, ], []⟩ ∧ Gu2 wr (v0.ownBlock) (fun v => v.ownsRow u.heap.size 9 1 v0 KK L0) (fun v x => v.ownsRow u.heap.size 9 1 x (KK + 1) (L0 ++ [.string ⟨#[48]⟩])) (.pointer (some ⟨w2.heap.size + 1, 1, none⟩)) (v0) (.int .i64 (k : Int)) (.int .i64 (j : Int)) L v s49 s50 s51 s52 s53 s54 s55 s56 s57 s58 s59 s60) ?_ ?_ ?_
        · exact ⟨_, _, _, _, _, _, _, _, _, _, _, _, rfl, ⟨by simp, grown_below (bl_drew (Below.refl _ _)), fun u x h => World.ownsRow.alloc h _, fun _ => HG.out.ow, fun g => absurd g (by simp [on]), fun g => absurd g (by simp [on]), fun g => absurd g (by simp [on]), fun g => absurd g (by simp [on]), fun g => absurd g (by simp [on]), fun g => absurd g (by simp [on]), fun g => absurd g (by simp [on]), fun g => absurd g (by simp [on]), fun g => absurd g (by simp [on]), fun g => absurd g (by simp [on]), fun g => absurd g (by simp [on]), fun g => absurd g (by simp [on]), fun _ _ => rfl, fun _ g _ => absurd g (by simp [on]), fun _ g => absurd g (by simp [on]), fun _ g => absurd g (by simp [on]), fun _ g => absurd g (by simp [on]), fun _ g => absurd g (by simp [on]), fun g => absurd g (by simp [on]), fun g => absurd g (by simp [on]), fun g => absurd g (by simp [on]), fun g => absurd g (by simp [on]), fun g => absurd g (by simp [on]), fun g => absurd g (by simp [on]), fun g => absurd g (by simp [on])⟩⟩
        · intro L a v i hL9 hI hrd
          obtain ⟨s49, s50, s51, s52, s53, s54, s55, s56, s57, s58, s59, s60, rfl, hP⟩ := hI
          obtain ⟨hu, o9, ho, haf⟩ := mem_ready.1 hrd
          have hlt : i < 12 := by
            have := (Array.getElem?_eq_some_iff.1 ho).1
            simp at this
            omega
          have z1v := grown_cell hP.gb HZ1.out HNE.out
          rcases (by omega : i = 0 ∨ i = 1 ∨ i = 2 ∨ i = 3 ∨ i = 4 ∨ i = 5 ∨ i = 6 ∨ i = 7 ∨ i = 8 ∨ i = 9 ∨ i = 10 ∨ i = 11) with rfl | rfl | rfl | rfl | rfl | rfl | rfl | rfl | rfl | rfl | rfl | rfl
          all_goals (simp only [List.take_succ_cons, List.take_zero, List.getElem?_toArray, List.getElem?_cons_zero, List.getElem?_cons_succ, Option.some.injEq] at ho; subst ho; replace hu := off_of hu)
          · refine step_run rfl rfl ?_
            have hP2 := hP.t0 
            go_simp
            exact ⟨_, _, _, _, _, _, _, _, _, _, _, _, ⟨rfl, rfl, rfl, rfl, rfl, rfl, rfl, rfl, rfl, rfl, rfl, rfl⟩, hP2⟩
          · have g0 := haf { on := 0, ground := .data } (by simp) rfl
            have e0 := (hP.h0 g0).symm
            subst e0
            refine step_run rfl rfl ?_
            have hP2 := hP.t1 g0
            go_simp
            exact ⟨_, _, _, _, _, _, _, _, _, _, _, _, ⟨rfl, rfl, rfl, rfl, rfl, rfl, rfl, rfl, rfl, rfl, rfl, rfl⟩, hP2⟩
          · have ha : ¬ on L 10 := fun c => hu (hP.r10_2 c)
            refine step_run rfl rfl ?_
            have hP2 := hP.t2  hu ha
            go_simp
            exact ⟨_, _, _, _, _, _, _, _, _, _, _, _, ⟨rfl, rfl, rfl, rfl, rfl, rfl, rfl, rfl, rfl, rfl, rfl, rfl⟩, hP2⟩
          · refine step_run rfl rfl ?_
            have hP2 := hP.t3 
            go_simp
            exact ⟨_, _, _, _, _, _, _, _, _, _, _, _, ⟨rfl, rfl, rfl, rfl, rfl, rfl, rfl, rfl, rfl, rfl, rfl, rfl⟩, hP2⟩
          · refine step_run rfl rfl ?_
            have hP2 := hP.t4 
            go_simp
            exact ⟨_, _, _, _, _, _, _, _, _, _, _, _, ⟨rfl, rfl, rfl, rfl, rfl, rfl, rfl, rfl, rfl, rfl, rfl, rfl⟩, hP2⟩
          · have g3 := haf { on := 3, ground := .data } (by simp) rfl
            have g4 := haf { on := 4, ground := .data } (by simp) rfl
            have e3 := (hP.h3 g3).symm
            have e4 := (hP.h4 g4).symm
            subst e3 e4
            refine step_run rfl rfl ?_
            have hP2 := hP.t5 g3 g4
            go_simp
            exact ⟨_, _, _, _, _, _, _, _, _, _, _, _, ⟨rfl, rfl, rfl, rfl, rfl, rfl, rfl, rfl, rfl, rfl, rfl, rfl⟩, hP2⟩
          · have g5 := haf { on := 5, ground := .data } (by simp) rfl
            have e5 := (hP.h5 g5).symm
            subst e5
            refine step_run rfl rfl ?_
            unfold Oper.wp
            rw [run_one cf26 (.tmp 54) 4 rfl _ rfl]
            refine (b2i_f _).mono ?_
            rintro e v2 ⟨rfl, rfl⟩
            have hP2 := hP.t6 g5
            go_simp
            exact ⟨_, _, _, _, _, _, _, _, _, _, _, _, ⟨rfl, rfl, rfl, rfl, rfl, rfl, rfl, rfl, rfl, rfl, rfl, rfl⟩, hP2⟩
          · have g2 := haf { on := 2, ground := .data } (by simp) rfl
            have g6 := haf { on := 6, ground := .data } (by simp) rfl
            have e2 := (hP.h2 g2).symm
            have e6 := (hP.h6 g6).symm
            subst e2 e6
            refine step_run rfl rfl ?_
            have hP2 := hP.t7 g2 g6
            go_simp
            exact ⟨_, _, _, _, _, _, _, _, _, _, _, _, ⟨rfl, rfl, rfl, rfl, rfl, rfl, rfl, rfl, rfl, rfl, rfl, rfl⟩, hP2⟩
          · have g7 := haf { on := 7, ground := .data } (by simp) rfl
            have e7 := (hP.h7 g7).symm
            have ha : ¬ on L 10 := fun c => hu (hP.r10_8 c)
            have hc := hP.c0_0 ha (hP.r7_2 g7)
            subst e7
            refine step_run rfl rfl ?_
            have hP2 := hP.t8 g7
            go_simp
            exact ⟨_, _, _, _, _, _, _, _, _, _, _, _, ⟨rfl, rfl, rfl, rfl, rfl, rfl, rfl, rfl, rfl, rfl, rfl, rfl⟩, hP2⟩
          · have g8 := haf { on := 8, ground := .data } (by simp) rfl
            have e8 := (hP.h8 g8).symm
            have ha : ¬ on L 10 := fun c => hu (hP.r10_9 c)
            subst e8
            refine step_run rfl rfl ?_
            have hP2 := hP.t9 g8 hu ha
            go_simp
            exact ⟨_, _, _, _, _, _, _, _, _, _, _, _, ⟨rfl, rfl, rfl, rfl, rfl, rfl, rfl, rfl, rfl, rfl, rfl, rfl⟩, hP2⟩
          · have g1 := haf { on := 1, ground := .data } (by simp) rfl
            have g9 := haf { on := 9, ground := .data } (by simp) rfl
            have e1 := (hP.h1 g1).symm
            have e9 := (hP.h9 g9).symm
            subst e1 e9
            refine step_run rfl rfl ?_
            have hc := hP.c1_0 (fun c => hu c) g9
            have hOW9 := hP.ow (fun c => hu c)
            refine wp_append_own v (.tmp 50) (.tmp 58) 23 rfl u.heap.size 9 i0 (.string ByteArray.empty) 1 16 Tryz.underlying23 hi hz0 hz1 hz2 rfl (by decide) v0 KK L0 rfl hOW9 ⟨wr.heap.size + 1, 0, none⟩ 1 1 [.string ⟨#[48]⟩] rfl rfl (one_new hc) (by simp [Value.oneCell']) (by have := HKQ.out; unfold maxLen; omega) (by have := HKQ.out; omega) (by have := HG.out.sz; have := hP.gb.size; omega) (fun v' w' ho' hg' _ => ?_)
            have hP2 := hP.t10 g1 g9 hg' ho'
            go_simp
            exact ⟨_, _, _, _, _, _, _, _, _, _, _, _, ⟨rfl, rfl, rfl, rfl, rfl, rfl, rfl, rfl, rfl, rfl, rfl, rfl⟩, hP2⟩
          · refine step_run rfl rfl ?_
            have hP2 := hP.t11 
            go_simp
            exact ⟨_, _, _, _, _, _, _, _, _, _, _, _, ⟨rfl, rfl, rfl, rfl, rfl, rfl, rfl, rfl, rfl, rfl, rfl, rfl⟩, hP2⟩
        · intro L a v hL9 hI hon
          obtain ⟨s49, s50, s51, s52, s53, s54, s55, s56, s57, s58, s59, s60, rfl, hP⟩ := hI
          have e0 := (hP.h0 (hon 0 (by decide))).symm
          have e1 := (hP.h1 (hon 1 (by decide))).symm
          have e2 := (hP.h2 (hon 2 (by decide))).symm
          have e3 := (hP.h3 (hon 3 (by decide))).symm
          have e4 := (hP.h4 (hon 4 (by decide))).symm
          have e5 := (hP.h5 (hon 5 (by decide))).symm
          have e6 := (hP.h6 (hon 6 (by decide))).symm
          have e7 := (hP.h7 (hon 7 (by decide))).symm
          have e8 := (hP.h8 (hon 8 (by decide))).symm
          have e9 := (hP.h9 (hon 9 (by decide))).symm
          have e11 := (hP.h11 (hon 11 (by decide))).symm
          have hOA := hP.oa (hon 10 (by decide))
          have hGB := hP.gb
          clear hP hon hL9
          subst e0 e1 e2 e3 e4 e5 e6 e7 e8 e9 e11
          refine step_run rfl rfl ?_
          obtain ⟨a4, c4, ev, _⟩ := Row.of_own hOA
          subst ev
          have hbl : v.heap[w2.heap.size + 1]? = wr.heap[w2.heap.size + 1]? := hGB.block _ (by have := HG.out.hi; have := HG.out.sz; omega) HNE.out
          have hc4 : v.cell? ⟨w2.heap.size + 1, 1, none⟩ = some v0 := by rw [World.cell?_of_block (w := wr) hbl]; exact HG.out.c1
          have hf4 : v.frozen? ⟨w2.heap.size + 1, 1, none⟩ = false := by rw [World.frozen?_of_block (w := wr) hbl]; exact HG.out.f1
          have HF : Hid _ := HG.out.next (Below.refl wr.heap.size wr) hGB hOA
          clear hOA hGB hbl HG HZ1 HNE
          go_simp
          go_wp2
          go_roundw
          case rel => exact ⟨j + 1, .slice a4 (KK + 1) c4, by omega, by go_num, by rw [← Nat.add_assoc, HKK.out, HX9.out]; exact HF.out⟩
          case measure => simp [intOf]; omega
    obtain rfl : q = j := by omega
    have HG : Hid _ := hG
    clear hG h' hj
    go_wp2
    go_roundw
    case rel => exact ⟨k + 1, _, by omega, by go_num, by rw [Nat.succ_mul]; exact HG.out⟩
    case measure => simp [intOf]; omega
  obtain rfl : q = k := by omega
  clear h hk
  obtain ⟨bu, du, ev, hrow, hfar⟩ := hG.far
  subst ev
  replace l10 := hG.cell l10 (by have := HSZ.out; omega)
  replace l11 := hG.cell l11 (by have := HSZ.out; omega)
  replace s0 := hG.cell s0 (by have := HSZ.out; omega)
  replace s1 := hG.cell s1 (by have := HSZ.out; omega)
  replace HB : Hid _ := hG.below HB.out (by have := HSZ.out; omega)
  clear r0 r1 fr
  have Ku0 := hG.c0
  have Ku1 := hG.c1
  have hq1 := HT0.out.two.2.2.2.1
  have hqq : q * q ≤ 8 * 8 := Nat.mul_le_mul (by omega) (by omega)
  have ru := (rgt_two q q).2 (by omega)
  have HTu : Hid (Tt wr 0 (some ⟨w2.heap.size, 0, none⟩) bu [(q : Int), (q : Int)] 2 (q * q) (unit q) 40) := tt_of ⟨sl_of_two s0 s1, by rw [← slope_all]; exact hrow, fun _ _ _ _ => Nat.zero_le _, fun _ _ _ _ => Nat.zero_le _⟩ ru (by rw [sz_two ru]; exact grid_len _ _ _) (fun t ht => by
    obtain ⟨i, j, _, _, rfl⟩ := mem_grid ht
    split
    · exact bd_one
    · exact bd_zero) rfl (grid_len _ _ _)
  have HTa : Hid _ := HT0.out.below HB.out
  have K10 := l10
  have K11 := l11
  clear l10 l11 s0 s1 hG hrow hfar HSZ ru
  have hpq := HT0.out.two.2.2.2.2
  have hnn := HT0.out.two.2.1
  have HL : Hid (qs.length = p * q) := HT0.out.two.1
  clear hnn
  go_wp2_with fail
  refine (zmm c1 d1 2 du (HE.out.below HB.out) HTa.out HTu.out hpq HT0.out.two.2.1.symm (by omega)).mono ?_
  rintro e w4 ⟨a4', c4', b4', d4', rfl, hT, hb⟩
  have hu := bl_alloc hb (.cells #[.slice a4' 2 c4', .slice b4' n1 d4'] 25)
  replace HB : Hid _ := bl_trans HB.out hu
  replace HTu : Hid _ := HTu.out.below hu
  replace HTa : Hid _ := HTa.out.below hu
  replace K10 := cell_below hu K10
  replace K11 := cell_below hu K11
  replace Ku0 := cell_below hu Ku0
  replace Ku1 := cell_below hu Ku1
  clear hu
  have HTm : Hid _ := hT.below (bl_alloc (Below.refl w4.heap.size w4) (.cells #[.slice a4' 2 c4', .slice b4' n1 d4'] 25))
  have Km0 : (w4.alloc (.cells #[.slice a4' 2 c4', .slice b4' n1 d4'] 25)).cell? ⟨w4.heap.size, 0, none⟩ = some (.slice a4' 2 c4') := by simp
  have Km1 : (w4.alloc (.cells #[.slice a4' 2 c4', .slice b4' n1 d4'] 25)).cell? ⟨w4.heap.size, 1, none⟩ = some (.slice b4' n1 d4') := by simp
  clear hb hT
  go_wp2_with fail
  refine (ztr 2 du (HE.out.below HB.out) HTu.out (by omega)).mono ?_
  rintro e w5 ⟨a5', c5', b5', d5', rfl, hT, hb⟩
  have hu := bl_alloc hb (.cells #[.slice a5' 2 c5', .slice b5' (q * q) d5'] 25)
  replace HB : Hid _ := bl_trans HB.out hu
  replace HTu : Hid _ := HTu.out.below hu
  replace HTa : Hid _ := HTa.out.below hu
  replace HTm : Hid _ := HTm.out.below hu
  replace K10 := cell_below hu K10
  replace K11 := cell_below hu K11
  replace Ku0 := cell_below hu Ku0
  replace Ku1 := cell_below hu Ku1
  replace Km0 := cell_below hu Km0
  replace Km1 := cell_below hu Km1
  clear hu
  have HTt : Hid _ := hT.below (bl_alloc (Below.refl w5.heap.size w5) (.cells #[.slice a5' 2 c5', .slice b5' (q * q) d5'] 25))
  have Kt0 : (w5.alloc (.cells #[.slice a5' 2 c5', .slice b5' (q * q) d5'] 25)).cell? ⟨w5.heap.size, 0, none⟩ = some (.slice a5' 2 c5') := by simp
  have Kt1 : (w5.alloc (.cells #[.slice a5' 2 c5', .slice b5' (q * q) d5'] 25)).cell? ⟨w5.heap.size, 1, none⟩ = some (.slice b5' (q * q) d5') := by simp
  clear hb hT
  go_wp2_with fail
  refine (zeq c4' d4' c1 d1 HTm.out HTa.out (mm_unit HL.out)).mono ?_
  rintro e w6 ⟨rfl, hb⟩
  have hu := hb
  replace HB : Hid _ := bl_trans HB.out hu
  replace HTu : Hid _ := HTu.out.below hu
  replace HTa : Hid _ := HTa.out.below hu
  replace HTm : Hid _ := HTm.out.below hu
  replace HTt : Hid _ := HTt.out.below hu
  replace K10 := cell_below hu K10
  replace K11 := cell_below hu K11
  replace Ku0 := cell_below hu Ku0
  replace Ku1 := cell_below hu Ku1
  replace Km0 := cell_below hu Km0
  replace Km1 := cell_below hu Km1
  replace Kt0 := cell_below hu Kt0
  replace Kt1 := cell_below hu Kt1
  clear hu
  clear hb
  go_wp2_with fail
  refine (zeq c5' d5' 2 du HTt.out HTu.out (tr_unit q)).mono ?_
  rintro e w7 ⟨rfl, hb⟩
  have hu := hb
  replace HB : Hid _ := bl_trans HB.out hu
  replace HTu : Hid _ := HTu.out.below hu
  replace HTa : Hid _ := HTa.out.below hu
  replace HTm : Hid _ := HTm.out.below hu
  replace HTt : Hid _ := HTt.out.below hu
  replace K10 := cell_below hu K10
  replace K11 := cell_below hu K11
  replace Ku0 := cell_below hu Ku0
  replace Ku1 := cell_below hu Ku1
  replace Km0 := cell_below hu Km0
  replace Km1 := cell_below hu Km1
  replace Kt0 := cell_below hu Kt0
  replace Kt1 := cell_below hu Kt1
  clear hu
  clear hb
  go_wp2_with fail
  refine (awake_any aF aZ _ (HE.out.below HB.out)).mono ?_
  rintro e w8 ⟨rfl, hb⟩
  have hu := hb
  replace HB : Hid _ := bl_trans HB.out hu
  replace HTu : Hid _ := HTu.out.below hu
  replace HTa : Hid _ := HTa.out.below hu
  replace HTm : Hid _ := HTm.out.below hu
  replace HTt : Hid _ := HTt.out.below hu
  replace K10 := cell_below hu K10
  replace K11 := cell_below hu K11
  replace Ku0 := cell_below hu Ku0
  replace Ku1 := cell_below hu Ku1
  replace Km0 := cell_below hu Km0
  replace Km1 := cell_below hu Km1
  replace Kt0 := cell_below hu Kt0
  replace Kt1 := cell_below hu Kt1
  clear hu
  clear hb
  go_wp2
  go_ret
  exact ⟨rfl, HB.out⟩

end Go.Proofs.YtbfboippaejnmaaGreatDoor.Tn
