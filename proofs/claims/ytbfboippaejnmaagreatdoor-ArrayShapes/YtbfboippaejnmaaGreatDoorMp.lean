/-
  THE DOCUMENT'S MATMUL: rows by columns. Conditions: what the arguments hold.
-/
import Derived.Test.YtbfboippaejnmaaGreatDoorGz
import Derived.Test.YtbfboippaejnmaaGreatDoorRl
namespace Go.Proofs.YtbfboippaejnmaaGreatDoor.Tn
set_option maxRecDepth 100000
open Go.RowKit Nm
set_option linter.unusedVariables false

theorem inf51 : (Tryz.prog.info? 51).map (fun i => (i.zero, i.size, i.bytes)) = some (some (.agg #[.string ByteArray.empty, .string ByteArray.empty]), 2, 32) := by kernel_rfl
theorem cf41 : ∀ (args : Array Value) (w : World), (callFunc 41 args).run Tryz.prog w = .ok (.enter 41 args) w := fun a w => run_enter Tryz.func41 (by kernel_rfl) rfl a w
/-- between two rounds of the outer loops: the call's own three blocks, and the numbers that were made -/
structure Mo (w wr : World) (x1 x2 y1 y2 : Value) (v : Value) (k : Nat) (L : List Rat) : Prop where
  zb : Zb w wr x1 x2 y1 y2
  ow : wr.ownsRow (w.heap.size + 1 + 1 + 1) 51 2 v k (frs L)
  sz : w.heap.size + 1 + 1 + 1 ≤ wr.heap.size
/-- within: u is the world ahead of the sum's box -/
structure Ms (u wr : World) (s : Rat) : Prop where
  bl : Below u.heap.size u wr
  c0 : wr.cell? ⟨u.heap.size, 0, none⟩ = some (.string (W s.num))
  c1 : wr.cell? ⟨u.heap.size, 1, none⟩ = some (.string (S s.den))
  f0 : wr.frozen? ⟨u.heap.size, 0, none⟩ = false
  f1 : wr.frozen? ⟨u.heap.size, 1, none⟩ = false
theorem owns_low {w w' : World} {base : Nat} {e : TypeId} {size : Nat} {v : Value} {n : Nat} {xs : List Value} (h : w.ownsRow base e size v n xs) (hb : Below w.heap.size w w') : w'.ownsRow base e size v n xs := owns_below h hb
theorem Ms.start (u : World) : Ms u (u.alloc (.cells #[.string ⟨#[48]⟩, .string ⟨#[49]⟩] 51)) 0 := by
  rw [← show W (0 : Rat).num = ⟨#[48]⟩ from W0, ← show S (0 : Rat).den = ⟨#[49]⟩ from S1]
  exact ⟨bl_alloc (Below.refl _ _) _, by simp, by simp, by simp, by simp⟩
theorem Ms.box {u wr w6 : World} {s : Rat} (h : Ms u wr s) (hb : Below wr.heap.size wr w6) (t : Rat) : Ms u ((w6.setCell ⟨u.heap.size, 0, none⟩ (.string (W t.num))).setCell ⟨u.heap.size, 1, none⟩ (.string (S t.den))) t := by
  have k0 := cell_below hb h.c0
  have k1 := cell_below hb h.c1
  have g0 := frozen_below hb (row_lt h.c0) h.f0
  have g1 := frozen_below hb (row_lt h.c1) h.f1
  refine ⟨((h.bl.trans (hb.mono h.bl.size)).setCell (Nat.le_refl _) _).setCell (Nat.le_refl _) _, ?_, ?_, ?_, ?_⟩
  · rw [World.cell?_setCell_other _ _ _ _ (by simp)]; exact World.cell?_setCell_same _ _ _ k0
  · exact World.cell?_setCell_same _ _ _ (by rw [World.cell?_setCell_other _ _ _ _ (by simp)]; exact k1)
  · rw [World.frozen?_setCell, World.frozen?_setCell]; exact g0
  · rw [World.frozen?_setCell, World.frozen?_setCell]; exact g1
theorem Mo.grow {w u wr w4 : World} {x1 x2 y1 y2 v v' : Value} {k k' : Nat} {L L' : List Rat} (h : Mo w u x1 x2 y1 y2 v k L) (hb : Below u.heap.size u wr) (hg : wr.grownBy w4 v.ownBlock) (ho : w4.ownsRow (w.heap.size + 1 + 1 + 1) 51 2 v' k' (frs L')) : Mo w w4 x1 x2 y1 y2 v' k' L' := by
  have hs := h.sz
  have h2 := hb.size
  have bk : ∀ b, b < w.heap.size + 1 + 1 + 1 → w4.heap[b]? = u.heap[b]? := fun b hlt => by
    rw [hg.block b (by omega) (fun e => by have := (World.ownsRow.lt h.ow _ e.symm).1; omega), hb.block b (by omega)]
  have cc : ∀ {b i : Nat} {z : Value}, u.cell? ⟨b, i, none⟩ = some z → b < w.heap.size + 1 + 1 + 1 → w4.cell? ⟨b, i, none⟩ = some z := fun hc hlt => by rw [World.cell?_of_block (w := u) (bk _ hlt)]; exact hc
  have ff : ∀ {b i : Nat}, u.frozen? ⟨b, i, none⟩ = false → b < w.heap.size + 1 + 1 + 1 → w4.frozen? ⟨b, i, none⟩ = false := fun hc hlt => by rw [World.frozen?_of_block (w := u) (bk _ hlt)]; exact hc
  refine ⟨⟨cc h.zb.a0 (by omega), cc h.zb.a1 (by omega), cc h.zb.b0 (by omega), cc h.zb.b1 (by omega), ⟨cc h.zb.bx.c0 (by omega), cc h.zb.bx.c1 (by omega), ff h.zb.bx.f0 (by omega), ff h.zb.bx.f1 (by omega)⟩, ?_⟩, ho, by have := hg.size; omega⟩
  exact (bl_trans h.zb.bl hb).grown hg (by omega) (fun k hk => by have := (World.ownsRow.lt h.ow _ hk).1; omega)
theorem two_cells {v : World} {b : Nat} {x y : Value} (h0 : v.cell? ⟨b, 0, none⟩ = some x) (h1 : v.cell? ⟨b, 1, none⟩ = some y) : ∀ (j : Nat) (z : Value), ([x, y] : List Value)[j]? = some z → v.cell? ((⟨b, 0, none⟩ : Addr).add j) = some z := by
  intro j z hj
  match j, hj with
  | 0, hj => simp at hj; subst hj; rw [row_add]; exact h0
  | 1, hj => simp at hj; subst hj; rw [row_add]; exact h1
  | j + 2, hj => simp at hj
theorem row_own9 {w : World} {base e n : Nat} {v : Value} {vs : List Value} (h : w.ownsRow base e 2 v n vs) : ∃ ao cap, v = .slice ao n cap ∧ Row w ao vs := by
  have h0 := h
  rcases h.2 with ⟨h1, h2⟩ | ⟨g, c, cur, h1, h2, h3, h4, _⟩
  · subst h1 h2
    have : vs.length = 0 := by have := h.1; omega
    rw [List.eq_nil_of_length_eq_zero this]
    exact ⟨none, 0, rfl, Row.nil _ _⟩
  · subst h1
    refine ⟨some ⟨g, 0, none⟩, c, rfl, fun i u hi => ?_⟩
    have hi2 : i < n * 2 := by have := (List.getElem?_eq_some_iff.1 hi).1; have := h.1; omega
    exact ⟨g, 0, rfl, by rw [Nat.zero_add, h0.cellAt i hi2]; exact hi⟩
/-- the products of a row and a column -/
def rc (n q : Nat) (qs rs : List Rat) (i k j : Nat) : Rat := qs.getD (i * n + j) 0 * rs.getD (j * q + k) 0
def ml (n q : Nat) (qs rs : List Rat) (t : Nat) : List Rat := (List.range t).map fun s => sig n (rc n q qs rs (s / q) (s % q))
theorem ml_next {n q i k : Nat} (qs rs : List Rat) (hk : k < q) : ml n q qs rs (i * q + k + 1) = ml n q qs rs (i * q + k) ++ [sig n (rc n q qs rs i k)] := grid_snoc (fun i k => sig n (rc n q qs rs i k)) hk
theorem ml_all (p n q : Nat) (qs rs : List Rat) : ml n q qs rs (p * q) = mm p n q qs rs := rfl
theorem ml_len (n q : Nat) (qs rs : List Rat) (t : Nat) : (ml n q qs rs t).length = t := by simp [ml]
/-- a value that is a tensor of these numbers, in blocks of one's own -/
def Nb (B : Nat) (zs : List Int) (m n : Nat) (qs : List Rat) (bd : Nat) (v : World) (x : Value) : Prop := ∃ a9 c9 b9 d9, x = .agg #[.slice a9 m c9, .slice b9 n d9] ∧ Tt v B a9 b9 zs m n qs bd
structure Gm (wr : World) (o : Option Nat) (OW : World → Prop) (OA : World → Value → Prop) (PA VA PX VP PB VB PY VQ VL : Value) (L : Array Bool) (v : World) (s61 s62 s63 s64 s65 s66 s67 s68 s69 s70 s71 : Value) : Prop where
  sz : L.size = 11
  gb : wr.grownBy v o
  kw : ∀ u x, OW u → OW (u.alloc x)
  ow : ¬ on L 10 → OW v
  oa : on L 10 → OA v s71
  h0 : on L 0 → s61 = PA
  h1 : on L 1 → s62 = VA
  h2 : on L 2 → s63 = PX
  h3 : on L 3 → s64 = VP
  h4 : on L 4 → s65 = PB
  h5 : on L 5 → s66 = VB
  h6 : on L 6 → s67 = PY
  h7 : on L 7 → s68 = VQ
  h8 : on L 8 → s69 = .slice (some ⟨wr.heap.size, 0, none⟩) 2 2
  h9 : on L 9 → s70 = VL
  n0 : ¬ on L 10 → ¬ on L 8 → v.heap.size = wr.heap.size
  n1 : ¬ on L 10 → on L 8 → v.heap.size = wr.heap.size + 1
  c0_0 : ¬ on L 10 → on L 8 → v.cell? ⟨wr.heap.size, 0, none⟩ = some (VP)
  c0_1 : ¬ on L 10 → on L 8 → v.cell? ⟨wr.heap.size, 1, none⟩ = some (VQ)
  r10_8 : on L 10 → on L 8
section
variable {wr : World} {o : Option Nat} {OW : World → Prop} {OA : World → Value → Prop} {PA VA PX VP PB VB PY VQ VL : Value} {L : Array Bool} {v v' : World} {s61 s62 s63 s64 s65 s66 s67 s68 s69 s70 s71 : Value}
theorem Gm.t0 (h : Gm wr o OW OA PA VA PX VP PB VB PY VQ VL L v s61 s62 s63 s64 s65 s66 s67 s68 s69 s70 s71) : Gm wr o OW OA PA VA PX VP PB VB PY VQ VL (L.setIfInBounds 0 true) v (PA) s62 s63 s64 s65 s66 s67 s68 s69 s70 s71 :=
  ⟨by simp [h.sz], h.gb, h.kw, fun g => h.ow (fun c => g (on_up c)) , fun g => h.oa (on_set g (by decide)), fun _ => rfl, fun g => h.h1 (on_set g (by decide)), fun g => h.h2 (on_set g (by decide)), fun g => h.h3 (on_set g (by decide)), fun g => h.h4 (on_set g (by decide)), fun g => h.h5 (on_set g (by decide)), fun g => h.h6 (on_set g (by decide)), fun g => h.h7 (on_set g (by decide)), fun g => h.h8 (on_set g (by decide)), fun g => h.h9 (on_set g (by decide)), fun a q => h.n0 (fun c => a (on_up c)) (fun c => q (on_up c)), fun a p => h.n1 (fun c => a (on_up c)) (on_set p (by decide)), fun a p => h.c0_0 (fun c => a (on_up c)) (on_set p (by decide)), fun a p => h.c0_1 (fun c => a (on_up c)) (on_set p (by decide)), fun g => on_up (h.r10_8 (on_set g (by decide)))⟩
theorem Gm.t1 (h : Gm wr o OW OA PA VA PX VP PB VB PY VQ VL L v s61 s62 s63 s64 s65 s66 s67 s68 s69 s70 s71) (g0 : on L 0) : Gm wr o OW OA PA VA PX VP PB VB PY VQ VL (L.setIfInBounds 1 true) v s61 (VA) s63 s64 s65 s66 s67 s68 s69 s70 s71 :=
  ⟨by simp [h.sz], h.gb, h.kw, fun g => h.ow (fun c => g (on_up c)) , fun g => h.oa (on_set g (by decide)), fun g => h.h0 (on_set g (by decide)), fun _ => rfl, fun g => h.h2 (on_set g (by decide)), fun g => h.h3 (on_set g (by decide)), fun g => h.h4 (on_set g (by decide)), fun g => h.h5 (on_set g (by decide)), fun g => h.h6 (on_set g (by decide)), fun g => h.h7 (on_set g (by decide)), fun g => h.h8 (on_set g (by decide)), fun g => h.h9 (on_set g (by decide)), fun a q => h.n0 (fun c => a (on_up c)) (fun c => q (on_up c)), fun a p => h.n1 (fun c => a (on_up c)) (on_set p (by decide)), fun a p => h.c0_0 (fun c => a (on_up c)) (on_set p (by decide)), fun a p => h.c0_1 (fun c => a (on_up c)) (on_set p (by decide)), fun g => on_up (h.r10_8 (on_set g (by decide)))⟩
theorem Gm.t2 (h : Gm wr o OW OA PA VA PX VP PB VB PY VQ VL L v s61 s62 s63 s64 s65 s66 s67 s68 s69 s70 s71) (g1 : on L 1) : Gm wr o OW OA PA VA PX VP PB VB PY VQ VL (L.setIfInBounds 2 true) v s61 s62 (PX) s64 s65 s66 s67 s68 s69 s70 s71 :=
  ⟨by simp [h.sz], h.gb, h.kw, fun g => h.ow (fun c => g (on_up c)) , fun g => h.oa (on_set g (by decide)), fun g => h.h0 (on_set g (by decide)), fun g => h.h1 (on_set g (by decide)), fun _ => rfl, fun g => h.h3 (on_set g (by decide)), fun g => h.h4 (on_set g (by decide)), fun g => h.h5 (on_set g (by decide)), fun g => h.h6 (on_set g (by decide)), fun g => h.h7 (on_set g (by decide)), fun g => h.h8 (on_set g (by decide)), fun g => h.h9 (on_set g (by decide)), fun a q => h.n0 (fun c => a (on_up c)) (fun c => q (on_up c)), fun a p => h.n1 (fun c => a (on_up c)) (on_set p (by decide)), fun a p => h.c0_0 (fun c => a (on_up c)) (on_set p (by decide)), fun a p => h.c0_1 (fun c => a (on_up c)) (on_set p (by decide)), fun g => on_up (h.r10_8 (on_set g (by decide)))⟩
theorem Gm.t3 (h : Gm wr o OW OA PA VA PX VP PB VB PY VQ VL L v s61 s62 s63 s64 s65 s66 s67 s68 s69 s70 s71) (g2 : on L 2) : Gm wr o OW OA PA VA PX VP PB VB PY VQ VL (L.setIfInBounds 3 true) v s61 s62 s63 (VP) s65 s66 s67 s68 s69 s70 s71 :=
  ⟨by simp [h.sz], h.gb, h.kw, fun g => h.ow (fun c => g (on_up c)) , fun g => h.oa (on_set g (by decide)), fun g => h.h0 (on_set g (by decide)), fun g => h.h1 (on_set g (by decide)), fun g => h.h2 (on_set g (by decide)), fun _ => rfl, fun g => h.h4 (on_set g (by decide)), fun g => h.h5 (on_set g (by decide)), fun g => h.h6 (on_set g (by decide)), fun g => h.h7 (on_set g (by decide)), fun g => h.h8 (on_set g (by decide)), fun g => h.h9 (on_set g (by decide)), fun a q => h.n0 (fun c => a (on_up c)) (fun c => q (on_up c)), fun a p => h.n1 (fun c => a (on_up c)) (on_set p (by decide)), fun a p => h.c0_0 (fun c => a (on_up c)) (on_set p (by decide)), fun a p => h.c0_1 (fun c => a (on_up c)) (on_set p (by decide)), fun g => on_up (h.r10_8 (on_set g (by decide)))⟩
theorem Gm.t4 (h : Gm wr o OW OA PA VA PX VP PB VB PY VQ VL L v s61 s62 s63 s64 s65 s66 s67 s68 s69 s70 s71) : Gm wr o OW OA PA VA PX VP PB VB PY VQ VL (L.setIfInBounds 4 true) v s61 s62 s63 s64 (PB) s66 s67 s68 s69 s70 s71 :=
  ⟨by simp [h.sz], h.gb, h.kw, fun g => h.ow (fun c => g (on_up c)) , fun g => h.oa (on_set g (by decide)), fun g => h.h0 (on_set g (by decide)), fun g => h.h1 (on_set g (by decide)), fun g => h.h2 (on_set g (by decide)), fun g => h.h3 (on_set g (by decide)), fun _ => rfl, fun g => h.h5 (on_set g (by decide)), fun g => h.h6 (on_set g (by decide)), fun g => h.h7 (on_set g (by decide)), fun g => h.h8 (on_set g (by decide)), fun g => h.h9 (on_set g (by decide)), fun a q => h.n0 (fun c => a (on_up c)) (fun c => q (on_up c)), fun a p => h.n1 (fun c => a (on_up c)) (on_set p (by decide)), fun a p => h.c0_0 (fun c => a (on_up c)) (on_set p (by decide)), fun a p => h.c0_1 (fun c => a (on_up c)) (on_set p (by decide)), fun g => on_up (h.r10_8 (on_set g (by decide)))⟩
theorem Gm.t5 (h : Gm wr o OW OA PA VA PX VP PB VB PY VQ VL L v s61 s62 s63 s64 s65 s66 s67 s68 s69 s70 s71) (g4 : on L 4) : Gm wr o OW OA PA VA PX VP PB VB PY VQ VL (L.setIfInBounds 5 true) v s61 s62 s63 s64 s65 (VB) s67 s68 s69 s70 s71 :=
  ⟨by simp [h.sz], h.gb, h.kw, fun g => h.ow (fun c => g (on_up c)) , fun g => h.oa (on_set g (by decide)), fun g => h.h0 (on_set g (by decide)), fun g => h.h1 (on_set g (by decide)), fun g => h.h2 (on_set g (by decide)), fun g => h.h3 (on_set g (by decide)), fun g => h.h4 (on_set g (by decide)), fun _ => rfl, fun g => h.h6 (on_set g (by decide)), fun g => h.h7 (on_set g (by decide)), fun g => h.h8 (on_set g (by decide)), fun g => h.h9 (on_set g (by decide)), fun a q => h.n0 (fun c => a (on_up c)) (fun c => q (on_up c)), fun a p => h.n1 (fun c => a (on_up c)) (on_set p (by decide)), fun a p => h.c0_0 (fun c => a (on_up c)) (on_set p (by decide)), fun a p => h.c0_1 (fun c => a (on_up c)) (on_set p (by decide)), fun g => on_up (h.r10_8 (on_set g (by decide)))⟩
theorem Gm.t6 (h : Gm wr o OW OA PA VA PX VP PB VB PY VQ VL L v s61 s62 s63 s64 s65 s66 s67 s68 s69 s70 s71) (g5 : on L 5) : Gm wr o OW OA PA VA PX VP PB VB PY VQ VL (L.setIfInBounds 6 true) v s61 s62 s63 s64 s65 s66 (PY) s68 s69 s70 s71 :=
  ⟨by simp [h.sz], h.gb, h.kw, fun g => h.ow (fun c => g (on_up c)) , fun g => h.oa (on_set g (by decide)), fun g => h.h0 (on_set g (by decide)), fun g => h.h1 (on_set g (by decide)), fun g => h.h2 (on_set g (by decide)), fun g => h.h3 (on_set g (by decide)), fun g => h.h4 (on_set g (by decide)), fun g => h.h5 (on_set g (by decide)), fun _ => rfl, fun g => h.h7 (on_set g (by decide)), fun g => h.h8 (on_set g (by decide)), fun g => h.h9 (on_set g (by decide)), fun a q => h.n0 (fun c => a (on_up c)) (fun c => q (on_up c)), fun a p => h.n1 (fun c => a (on_up c)) (on_set p (by decide)), fun a p => h.c0_0 (fun c => a (on_up c)) (on_set p (by decide)), fun a p => h.c0_1 (fun c => a (on_up c)) (on_set p (by decide)), fun g => on_up (h.r10_8 (on_set g (by decide)))⟩
theorem Gm.t7 (h : Gm wr o OW OA PA VA PX VP PB VB PY VQ VL L v s61 s62 s63 s64 s65 s66 s67 s68 s69 s70 s71) (g6 : on L 6) : Gm wr o OW OA PA VA PX VP PB VB PY VQ VL (L.setIfInBounds 7 true) v s61 s62 s63 s64 s65 s66 s67 (VQ) s69 s70 s71 :=
  ⟨by simp [h.sz], h.gb, h.kw, fun g => h.ow (fun c => g (on_up c)) , fun g => h.oa (on_set g (by decide)), fun g => h.h0 (on_set g (by decide)), fun g => h.h1 (on_set g (by decide)), fun g => h.h2 (on_set g (by decide)), fun g => h.h3 (on_set g (by decide)), fun g => h.h4 (on_set g (by decide)), fun g => h.h5 (on_set g (by decide)), fun g => h.h6 (on_set g (by decide)), fun _ => rfl, fun g => h.h8 (on_set g (by decide)), fun g => h.h9 (on_set g (by decide)), fun a q => h.n0 (fun c => a (on_up c)) (fun c => q (on_up c)), fun a p => h.n1 (fun c => a (on_up c)) (on_set p (by decide)), fun a p => h.c0_0 (fun c => a (on_up c)) (on_set p (by decide)), fun a p => h.c0_1 (fun c => a (on_up c)) (on_set p (by decide)), fun g => on_up (h.r10_8 (on_set g (by decide)))⟩
theorem Gm.t8 (h : Gm wr o OW OA PA VA PX VP PB VB PY VQ VL L v s61 s62 s63 s64 s65 s66 s67 s68 s69 s70 s71) (g3 : on L 3) (g7 : on L 7) (hu : ¬ on L 8) (ha : ¬ on L 10) : Gm wr o OW OA PA VA PX VP PB VB PY VQ VL (L.setIfInBounds 8 true) (v.alloc (.cells #[VP, VQ] 3)) s61 s62 s63 s64 s65 s66 s67 s68 (.slice (some ⟨v.heap.size, 0, none⟩) 2 2) s70 s71 :=
  ⟨by simp [h.sz], grown_alloc h.gb _, h.kw, fun g => h.kw _ _ (h.ow ha ), fun g => absurd (h.r10_8 (on_set g (by decide))) hu, fun g => h.h0 (on_set g (by decide)), fun g => h.h1 (on_set g (by decide)), fun g => h.h2 (on_set g (by decide)), fun g => h.h3 (on_set g (by decide)), fun g => h.h4 (on_set g (by decide)), fun g => h.h5 (on_set g (by decide)), fun g => h.h6 (on_set g (by decide)), fun g => h.h7 (on_set g (by decide)), fun _ => by rw [h.n0 ha hu], fun g => h.h9 (on_set g (by decide)), fun a q => absurd (on_self (by rw [h.sz]; decide)) q, fun a p => by rw [World.size_alloc, h.n0 ha hu], fun a p => by rw [← h.n0 ha hu]; simp, fun a p => by rw [← h.n0 ha hu]; simp, fun _ => on_self (by rw [h.sz]; decide)⟩
theorem Gm.t9 (h : Gm wr o OW OA PA VA PX VP PB VB PY VQ VL L v s61 s62 s63 s64 s65 s66 s67 s68 s69 s70 s71) : Gm wr o OW OA PA VA PX VP PB VB PY VQ VL (L.setIfInBounds 9 true) v s61 s62 s63 s64 s65 s66 s67 s68 s69 (VL) s71 :=
  ⟨by simp [h.sz], h.gb, h.kw, fun g => h.ow (fun c => g (on_up c)) , fun g => h.oa (on_set g (by decide)), fun g => h.h0 (on_set g (by decide)), fun g => h.h1 (on_set g (by decide)), fun g => h.h2 (on_set g (by decide)), fun g => h.h3 (on_set g (by decide)), fun g => h.h4 (on_set g (by decide)), fun g => h.h5 (on_set g (by decide)), fun g => h.h6 (on_set g (by decide)), fun g => h.h7 (on_set g (by decide)), fun g => h.h8 (on_set g (by decide)), fun _ => rfl, fun a q => h.n0 (fun c => a (on_up c)) (fun c => q (on_up c)), fun a p => h.n1 (fun c => a (on_up c)) (on_set p (by decide)), fun a p => h.c0_0 (fun c => a (on_up c)) (on_set p (by decide)), fun a p => h.c0_1 (fun c => a (on_up c)) (on_set p (by decide)), fun g => on_up (h.r10_8 (on_set g (by decide)))⟩
theorem Gm.t10 (h : Gm wr o OW OA PA VA PX VP PB VB PY VQ VL L v s61 s62 s63 s64 s65 s66 s67 s68 s69 s70 s71) (g8 : on L 8) (g9 : on L 9) {x : Value} (hg : v.grownBy v' o) (hy : OA v' x) : Gm wr o OW OA PA VA PX VP PB VB PY VQ VL (L.setIfInBounds 10 true) v' s61 s62 s63 s64 s65 s66 s67 s68 s69 s70 x :=
  ⟨by simp [h.sz], grown_trans h.gb hg, h.kw, fun g => absurd (on_self (by rw [h.sz]; decide)) g, fun _ => hy, fun g => h.h0 (on_set g (by decide)), fun g => h.h1 (on_set g (by decide)), fun g => h.h2 (on_set g (by decide)), fun g => h.h3 (on_set g (by decide)), fun g => h.h4 (on_set g (by decide)), fun g => h.h5 (on_set g (by decide)), fun g => h.h6 (on_set g (by decide)), fun g => h.h7 (on_set g (by decide)), fun g => h.h8 (on_set g (by decide)), fun g => h.h9 (on_set g (by decide)), fun a q => absurd (on_self (by rw [h.sz]; decide)) a, fun a p => absurd (on_self (by rw [h.sz]; decide)) a, fun a p => absurd (on_self (by rw [h.sz]; decide)) a, fun a p => absurd (on_self (by rw [h.sz]; decide)) a, fun _ => on_up g8⟩
end
theorem grown_none {a b : World} (h : a.grownBy b none) : Below a.heap.size a b := ⟨h.os, h.tape, h.output, h.size, fun k hk => h.block k hk (by simp)⟩
theorem zofm {ao : Option Addr} {w : World} {B b p q N bd : Nat} {qs : List Rat} (c cap : Nat) (h0 : w.cell? ⟨b, 0, none⟩ = some (.int .i64 (p : Int))) (h1 : w.cell? ⟨b, 1, none⟩ = some (.int .i64 (q : Int))) (hR : Row w ao (frs qs)) (hn : qs.length = N) (hr : Sp.Rgt [(p : Int), (q : Int)]) (hb : ∀ t, t ∈ qs → Bd t bd) (hbd : bd ≤ 20000) (hB : B ≤ b) (hB2 : B ≤ w.heap.size) (hl : N = p * q) :
    Calls Tryz.prog 41 #[.slice (some ⟨b, 0, none⟩) 2 c, .slice ao N cap] w fun e w' => ∃ x, e = .returned x ∧ Nb B [(p : Int), (q : Int)] 2 N qs bd w' x ∧ Below w.heap.size w w' := by
  have k := (rgt_two p q).1 hr
  have hO := of_any (some ⟨b, 0, none⟩) ao [(p : Int), (q : Int)] qs c cap w (sl_of_two h0 h1) hR (by omega) (fun q hq => (hb q hq).mono hbd)
  rw [hn] at hO
  refine hO.mono ?_
  rintro e w5 ⟨c5, b5, d5, rfl, hr5, hf5, hb5⟩
  exact ⟨_, rfl, ⟨_, c5, b5, d5, rfl, tt_of ⟨(sl_of_two h0 h1).below hb5, hr5, fun b' off sp e => by cases e; exact hB, fun b' off sp e => Nat.le_trans hB2 (hf5 b' off sp e)⟩ hr (by rw [sz_two hr, hn, hl]) hb rfl hn⟩, hb5⟩

set_option maxHeartbeats 8000000 in
theorem rmm_any (x y x2 y2 : Nat) (b1 b2 : Option Addr) (c1 d1 N1 c2 d2 N2 p n q : Nat) (qs rs : List Rat) (w : World) (h1 : Tt w 0 (some ⟨x, y, none⟩) b1 [(p : Int), (n : Int)] 2 N1 qs 40) (h2 : Tt w 0 (some ⟨x2, y2, none⟩) b2 [(n : Int), (q : Int)] 2 N2 rs 40) (hpq : p * q ≤ 64)
    (p0 : w.cell? ⟨x, y, none⟩ = some (.int .i64 (p : Int))) (n0 : w.cell? ⟨x, y + 1, none⟩ = some (.int .i64 (n : Int))) (q0 : w.cell? ⟨x2, y2 + 1, none⟩ = some (.int .i64 (q : Int))) :
    Calls Tryz.prog 19 #[.agg #[.slice (some ⟨x, y, none⟩) 2 c1, .slice b1 N1 d1], .agg #[.slice (some ⟨x2, y2, none⟩) 2 c2, .slice b2 N2 d2]] w fun e w' => ∃ z, e = .returned z ∧ Nt [(p : Int), (q : Int)] 2 (p * q) (mm p n q qs rs) (n * (40 + 40 + 1) + 1) w' z ∧ Below w.heap.size w w' := by
  obtain ⟨i0, hi, hz0, hz1, hz2⟩ := info_parts inf51
  have t1 := h1.two
  have t2 := h2.two
  have hp := (two_le ⟨t1.2.2.1, t1.2.2.2.1, t1.2.2.2.2⟩).1
  have hn := (two_le ⟨t1.2.2.1, t1.2.2.2.1, t1.2.2.2.2⟩).2
  have hq := (two_le ⟨t2.2.2.1, t2.2.2.2.1, t2.2.2.2.2⟩).2
  have hr := (rgt_two p q).2 ⟨t1.2.2.1, t2.2.2.2.1, hpq⟩
  have H1 : Hid _ := h1
  have H2 : Hid _ := h2
  have HT1 : Hid _ := t1
  have HT2 : Hid _ := t2
  have HR : Hid _ := hr
  have HPQ : Hid (p * q ≤ 64) := hpq
  have HQ : Hid (∀ v, Below w.heap.size w v → v.cell? ⟨x, y, none⟩ = some (.int .i64 (p : Int)) ∧ v.cell? ⟨x, y + 1, none⟩ = some (.int .i64 (n : Int)) ∧ v.cell? ⟨x2, y2 + 1, none⟩ = some (.int .i64 (q : Int))) := fun v hv => ⟨cell_below hv p0, cell_below hv n0, cell_below hv q0⟩
  have hZ : Zb w (((w.alloc (.cells #[.slice (some ⟨x, y, none⟩) 2 c1, .slice b1 N1 d1] 25)).alloc (.cells #[.slice (some ⟨x2, y2, none⟩) 2 c2, .slice b2 N2 d2] 25)).alloc (.cells #[.slice none 0 0, .slice none 0 0] 25)) (.slice (some ⟨x, y, none⟩) 2 c1) (.slice b1 N1 d1) (.slice (some ⟨x2, y2, none⟩) 2 c2) (.slice b2 N2 d2) := Zb.of (Below.refl _ _)
  have hs : (((w.alloc (.cells #[.slice (some ⟨x, y, none⟩) 2 c1, .slice b1 N1 d1] 25)).alloc (.cells #[.slice (some ⟨x2, y2, none⟩) 2 c2, .slice b2 N2 d2] 25)).alloc (.cells #[.slice none 0 0, .slice none 0 0] 25)).heap.size = w.heap.size + 1 + 1 + 1 := by simp
  have HM : Hid (Mo w (((w.alloc (.cells #[.slice (some ⟨x, y, none⟩) 2 c1, .slice b1 N1 d1] 25)).alloc (.cells #[.slice (some ⟨x2, y2, none⟩) 2 c2, .slice b2 N2 d2] 25)).alloc (.cells #[.slice none 0 0, .slice none 0 0] 25)) (.slice (some ⟨x, y, none⟩) 2 c1) (.slice b1 N1 d1) (.slice (some ⟨x2, y2, none⟩) 2 c2) (.slice b2 N2 d2) (.slice none 0 0) 0 []) := ⟨hZ, World.ownsRow_nil _ _ _ _, by rw [hs]; exact Nat.le_refl _⟩
  have k0 := hZ.a0
  have k1 := hZ.a1
  have n1 := (HQ.out _ hZ.bl).2.1
  clear h1 h2 t1 t2 hr hpq p0 n0 q0 hZ hs
  go_enter Tryz.func19, Tryz.ntmps19
  go_wp2_with fail
  go_loopw [6, 7] (fun l c wr => ∃ i : Nat, i ≤ p ∧ c = .int .i64 i ∧ Mo w wr (.slice (some ⟨x, y, none⟩) 2 c1) (.slice b1 N1 d1) (.slice (some ⟨x2, y2, none⟩) 2 c2) (.slice b2 N2 d2) l (i * q) (ml n q qs rs (i * q))) (fun _ c _ => p - (intOf c).toNat)
  case atStart => exact ⟨0, by omega, rfl, by rw [Nat.zero_mul]; exact HM.out⟩
  case round =>
  clear HM k0 k1 n1
  obtain ⟨i, hi9, rfl, hM⟩ := hrel
  have k0 := hM.zb.a0
  have k1 := hM.zb.a1
  have k2 := hM.zb.b0
  have k3 := hM.zb.b1
  have hQ := HQ.out _ hM.zb.bl
  have v0 := hQ.1
  have v1 := hQ.2.1
  have v2 := hQ.2.2
  have HM : Hid _ := hM
  clear hM hQ
  by_cases h : i < p
  · go_wp2_with fail
    go_loopw [6, 8] (fun l c wr => ∃ k : Nat, k ≤ q ∧ c = .int .i64 k ∧ Mo w wr (.slice (some ⟨x, y, none⟩) 2 c1) (.slice b1 N1 d1) (.slice (some ⟨x2, y2, none⟩) 2 c2) (.slice b2 N2 d2) l (i * q + k) (ml n q qs rs (i * q + k))) (fun _ c _ => q - (intOf c).toNat)
    case atStart => exact ⟨0, by omega, rfl, by rw [Nat.add_zero]; exact HM.out⟩
    case round =>
    clear HM k0 k1 k2 k3 v0 v1 v2
    obtain ⟨k, hk9, rfl, hM⟩ := hrel
    have k0 := hM.zb.a0
    have k1 := hM.zb.a1
    have k2 := hM.zb.b0
    have k3 := hM.zb.b1
    have hQ := HQ.out _ hM.zb.bl
    have v0 := hQ.1
    have v1 := hQ.2.1
    have v2 := hQ.2.2
    have HM : Hid _ := hM
    clear hM hQ
    by_cases h' : k < q
    · obtain ⟨u, hu⟩ : ∃ u, u = wr := ⟨_, rfl⟩
      subst hu
      go_wp2_with fail
      go_loopw [10] (fun c wr => ∃ j : Nat, j ≤ n ∧ c = .int .i64 j ∧ Ms u wr (sig j (rc n q qs rs i k))) (fun c _ => n - (intOf c).toNat)
      case atStart => exact ⟨0, by omega, rfl, by rw [sig_zero]; exact Ms.start u⟩
      case round =>
      obtain ⟨j, hj9, rfl, hS⟩ := hrel
      replace k0 := cell_below hS.bl k0
      replace k1 := cell_below hS.bl k1
      replace k2 := cell_below hS.bl k2
      replace k3 := cell_below hS.bl k3
      replace v2 := cell_below hS.bl v2
      clear v0 v1
      have hbw := bl_trans HM.out.zb.bl hS.bl
      have s0 := hS.c0
      have s1 := hS.c1
      by_cases h3 : j < n
      · have g1 := in_grid h h3
        have g2 := in_grid h3 h'
        have b1 : Bd (qs.getD (i * n + j) 0) 40 := H1.out.tr.b _ (mem_getD qs (by rw [HT1.out.1]; exact g1))
        have b2 : Bd (rs.getD (j * q + k) 0) 40 := H2.out.tr.b _ (mem_getD rs (by rw [HT2.out.1]; exact g2))
        have b3 : Bd (sig j (rc n q qs rs i k)) (j * (80 + 1) + 1) := Bd.sig fun t ht => (H1.out.tr.b _ (mem_getD qs (by rw [HT1.out.1]; exact in_grid h (by omega)))).mul (H2.out.tr.b _ (mem_getD rs (by rw [HT2.out.1]; exact in_grid (by omega) h')))
        have z1 := fun (v : World) (hv : Below wr.heap.size wr v) => zat c1 d1 (i * n + j) (H1.out.below (bl_trans hbw hv)) (by rw [HT1.out.2.1]; exact g1) (by omega)
        have z2 := fun (v : World) (hv : Below wr.heap.size wr v) => zat c2 d2 (j * q + k) (H2.out.below (bl_trans hbw hv)) (by rw [HT2.out.2.1]; exact g2) (by omega)
        have z3 := fun (v : World) => rmul_R (qs.getD (i * n + j) 0) (rs.getD (j * q + k) 0) 40 40 v b1 b2 (by omega)
        have z4 := fun (v : World) => radd_R (sig j (rc n q qs rs i k)) (qs.getD (i * n + j) 0 * rs.getD (j * q + k) 0) (j * (80 + 1) + 1) (40 + 40) v b3 (b1.mul b2) (by omega)
        have e4 : sig j (rc n q qs rs i k) + qs.getD (i * n + j) 0 * rs.getD (j * q + k) 0 = sig (j + 1) (rc n q qs rs i k) := (sig_succ j (rc n q qs rs i k)).symm
        rw [e4] at z4
        have m1 : i * n ≤ 64 := by have := HT1.out.2.2.2.2; omega
        have m2 : j * q ≤ 64 := by have := HT2.out.2.2.2.2; omega
        obtain ⟨IN, hIN⟩ : ∃ IN, i * n = IN := ⟨_, rfl⟩
        obtain ⟨JQ, hJQ⟩ : ∃ JQ, j * q = JQ := ⟨_, rfl⟩
        have e5 : IntKind.i64.wrap ((i : Int) * (n : Int)) = (IN : Int) := by rw [← Int.natCast_mul, hIN, IntKind.wrap_i64]; omega
        have e6 : IntKind.i64.wrap ((j : Int) * (q : Int)) = (JQ : Int) := by rw [← Int.natCast_mul, hJQ, IntKind.wrap_i64]; omega
        rw [hIN] at z1 z3 m1
        rw [hJQ] at z2 z3 m2
        rw [hIN, hJQ] at e4
        obtain ⟨IX, hIX⟩ : ∃ IX, IN + j = IX := ⟨_, rfl⟩
        obtain ⟨JX, hJX⟩ : ∃ JX, JQ + k = JX := ⟨_, rfl⟩
        have e7 : IntKind.i64.wrap ((IN : Int) + (j : Int)) = (IX : Int) := by rw [← Int.natCast_add, hIX, IntKind.wrap_i64]; omega
        have e8 : IntKind.i64.wrap ((JQ : Int) + (k : Int)) = (JX : Int) := by rw [← Int.natCast_add, hJX, IntKind.wrap_i64]; omega
        have e9 : ∀ v, Calls Tryz.prog 38 #[fr (sig j (rc n q qs rs i k)), fr (qs.getD IX 0 * rs.getD JX 0)] v fun e w' => e = .returned (fr (sig (j + 1) (rc n q qs rs i k))) ∧ Below v.heap.size v w' := fun v => by
          have := z4 v
          rw [hIN, hJQ, hIX, hJX] at this
          exact this
        rw [hIX] at z1 z3
        rw [hJX] at z2 z3
        clear z4 e4 hIN hJQ hIX hJX g1 g2 b1 b2 b3 m1 m2
        generalize qs.getD IX 0 = X1 at *
        generalize rs.getD JX 0 = X2 at *
        have HS : Hid _ := hS
        have HBW : Hid _ := hbw
        have hf0 := hS.f0
        have hf1 := hS.f1
        clear hS hbw
        unfold fr at z1 z2 z3 e9
        generalize sig j (rc n q qs rs i k) = s9 at *
        generalize hs10 : sig (j + 1) (rc n q qs rs i k) = s10 at *
        go_upto_region 13 with fail
        obtain ⟨C, hC⟩ : ∃ C : World → Prop, C = fun v => Below wr.heap.size wr v := ⟨_, rfl⟩
        have cS : ∀ v, C v → Below wr.heap.size wr v := fun v h => by subst hC; exact h
        have a0 : ∀ v, C v → v.cell? ⟨w.heap.size, 0, none⟩ = some (.slice (some ⟨x, y, none⟩) 2 c1) := fun v h => cell_below (cS v h) k0
        have a1 : ∀ v, C v → v.cell? ⟨w.heap.size, 1, none⟩ = some (.slice b1 N1 d1) := fun v h => cell_below (cS v h) k1
        have a2 : ∀ v, C v → v.cell? ⟨w.heap.size + 1, 0, none⟩ = some (.slice (some ⟨x2, y2, none⟩) 2 c2) := fun v h => cell_below (cS v h) k2
        have a3 : ∀ v, C v → v.cell? ⟨w.heap.size + 1, 1, none⟩ = some (.slice b2 N2 d2) := fun v h => cell_below (cS v h) k3
        have a4 : ∀ v, C v → v.cell? ⟨x2, y2 + 1, none⟩ = some (.int .i64 (q : Int)) := fun v h => cell_below (cS v h) v2
        have a5 : ∀ v, C v → v.cell? ⟨u.heap.size, 0, none⟩ = some (.string (W s9.num)) := fun v h => cell_below (cS v h) s0
        have a6 : ∀ v, C v → v.cell? ⟨u.heap.size, 1, none⟩ = some (.string (S s9.den)) := fun v h => cell_below (cS v h) s1
        have cT : ∀ u v, C u → Below u.heap.size u v → C v := fun u v h k => by subst hC; exact bl_trans h k
        have cI : C wr.drew := by subst hC; exact bl_drew (Below.refl _ _)
        have CS : Hid _ := cS
        clear hC cS k0 k1 k2 k3 v2 s0 s1
        refine region_last 20 C (by kernel_rfl) (by kernel_rfl) (by kernel_rfl) cI ?_
        clear cI
        simp only [List.take_succ_cons, List.take_zero]
        with_reducible refine wpQuiet_step (fun K hK => ?_)
        go_simp
        refine ⟨.agg #[.string (W s9.num), .string (S s9.den)], fun v hv => ?_, hK _ ?_⟩
        · simp [a5 v hv, a6 v hv]
        clear hK K
        with_reducible refine wpQuiet_step (fun K hK => ?_)
        go_simp
        refine ⟨.agg #[.slice (some ⟨x, y, none⟩) 2 c1, .slice b1 N1 d1], fun v hv => ?_, hK _ ?_⟩
        · simp [a0 v hv, a1 v hv]
        clear hK K
        with_reducible refine wpQuiet_step (fun K hK => ?_)
        go_simp
        refine ⟨_, fun v hv => rfl, hK _ ?_⟩
        clear hK K
        with_reducible refine wpQuiet_step (fun K hK => ?_)
        go_simp
        refine ⟨_, fun v hv => rfl, hK _ ?_⟩
        clear hK K
        with_reducible refine wpQuiet_step (fun K hK => ?_)
        go_simp
        refine ⟨_, fun v hv => rfl, hK _ ?_⟩
        clear hK K
        with_reducible refine wpQuiet_step (fun K hK => ?_)
        go_simp
        refine ⟨_, fun v hv => rfl, hK _ ?_⟩
        clear hK K
        with_reducible refine wpQuiet_step (fun K hK => ?_)
        go_simp
        refine ⟨_, fun v hv => rfl, hK _ ?_⟩
        clear hK K
        with_reducible refine wpQuiet_step (fun K hK => ?_)
        go_simp
        refine ⟨.agg #[.string (W X1.num), .string (S X1.den)], fun v hv => ?_, hK _ ?_⟩
        · exact calm_call cT hv (z1 v (CS.out v hv))
        clear hK K
        with_reducible refine wpQuiet_step (fun K hK => ?_)
        go_simp
        refine ⟨.agg #[.slice (some ⟨x2, y2, none⟩) 2 c2, .slice b2 N2 d2], fun v hv => ?_, hK _ ?_⟩
        · simp [a2 v hv, a3 v hv]
        clear hK K
        with_reducible refine wpQuiet_step (fun K hK => ?_)
        go_simp
        refine ⟨_, fun v hv => rfl, hK _ ?_⟩
        clear hK K
        with_reducible refine wpQuiet_step (fun K hK => ?_)
        go_simp
        refine ⟨_, fun v hv => rfl, hK _ ?_⟩
        clear hK K
        with_reducible refine wpQuiet_step (fun K hK => ?_)
        go_simp
        refine ⟨.slice (some ⟨x2, y2, none⟩) 2 c2, fun v hv => ?_, hK _ ?_⟩
        · simp [a2 v hv]
        clear hK K
        with_reducible refine wpQuiet_step (fun K hK => ?_)
        go_simp
        refine ⟨_, fun v hv => rfl, hK _ ?_⟩
        clear hK K
        with_reducible refine wpQuiet_step (fun K hK => ?_)
        go_simp
        refine ⟨.int .i64 (q : Int), fun v hv => ?_, hK _ ?_⟩
        · simp [a4 v hv]
        clear hK K
        with_reducible refine wpQuiet_step (fun K hK => ?_)
        go_simp
        refine ⟨_, fun v hv => rfl, hK _ ?_⟩
        clear hK K
        with_reducible refine wpQuiet_step (fun K hK => ?_)
        go_simp
        refine ⟨_, fun v hv => rfl, hK _ ?_⟩
        clear hK K
        with_reducible refine wpQuiet_step (fun K hK => ?_)
        go_simp
        refine ⟨_, fun v hv => rfl, hK _ ?_⟩
        clear hK K
        with_reducible refine wpQuiet_step (fun K hK => ?_)
        go_simp
        refine ⟨.agg #[.string (W X2.num), .string (S X2.den)], fun v hv => ?_, hK _ ?_⟩
        · exact calm_call cT hv (z2 v (CS.out v hv))
        clear hK K
        with_reducible refine wpQuiet_step (fun K hK => ?_)
        go_simp
        refine ⟨.agg #[.string (W (X1 * X2).num), .string (S (X1 * X2).den)], fun v hv => ?_, hK _ ?_⟩
        · exact calm_call cT hv (z3 v)
        clear hK K
        with_reducible refine wpQuiet_step (fun K hK => ?_)
        go_simp
        refine ⟨.agg #[.string (W s10.num), .string (S s10.den)], fun v hv => ?_, hK _ ?_⟩
        · exact calm_call cT hv (e9 v)
        clear hK K
        refine wpQuiet_nil ?_
        intro w6 C6
        have hb6 := CS.out w6 C6
        have l0 := cell_below hb6 HS.out.c0
        have l1 := cell_below hb6 HS.out.c1
        have l2 := frozen_below hb6 (row_lt HS.out.c0) HS.out.f0
        have l3 := frozen_below hb6 (row_lt HS.out.c1) HS.out.f1
        have HB6 : Hid _ := hb6
        clear hb6 C6 a0 a1 a2 a3 a4 a5 a6 cT hf0 hf1 z1 z2 z3 e9
        refine step_run rfl rfl ?_
        go_simp
        go_wp2
        go_roundw
        case rel => exact ⟨j + 1, by omega, by go_num, by rw [hs10]; exact HS.out.box HB6.out s10⟩
        case measure => simp [intOf]; omega
      obtain rfl : n = j := by omega
      clear h3 hj9
      have HX9 : Hid _ := ml_next (n := n) (i := i) qs rs h'
      have hbd := HPQ.out
      have hL := ml_len n q qs rs (i * q + k)
      have hik : i * q + k < 64 := by have := in_grid h h'; omega
      have hM := HM.out
      obtain ⟨KK, hKK⟩ : ∃ KK, i * q + k = KK := ⟨_, rfl⟩
      rw [hKK] at HX9 hik hM
      have HKK : Hid _ := hKK
      generalize sig n (rc n q qs rs i k) = s9 at *
      generalize ml n q qs rs KK = L0 at *
      have NBX : Hid True := trivial
      have hown : (wr.alloc (.cells #[.string (W s9.num), .string (S s9.den)] 51)).ownsRow (w.heap.size + 1 + 1 + 1) 51 2 u6 KK (frs L0) := owns_below (owns_below hM.ow hS.bl) (bl_alloc (Below.refl _ _) _)
      have hnw := two_cells (v := wr.alloc (.cells #[.string (W s9.num), .string (S s9.den)] 51)) (b := wr.heap.size) (x := .string (W s9.num)) (y := .string (S s9.den)) (by simp) (by simp)
      have HOW : Hid _ := hown
      have HNW : Hid _ := hnw
      have HS : Hid _ := hS
      have HM2 : Hid _ := hM
      have HLE : Hid (w.heap.size + 1 + 1 + 1 ≤ (wr.alloc (.cells #[.string (W s9.num), .string (S s9.den)] 51)).heap.size) := by have h1 := hM.sz; have h2 := hS.bl.size; unfold Hid; simp; omega
      clear hown hnw hS hM hbw hKK hbd hL
      have hfr : frs (L0 ++ [s9]) = frs L0 ++ [.string (W s9.num), .string (S s9.den)] := by rw [frs_app]; rfl
      generalize W s9.num = P9 at *
      generalize S s9.den = Q9 at *
      have HFR : Hid _ := hfr
      clear hfr
      go_wp2_with (first | (at_builtin; refine wpList_append_own _ rfl _ _ 54 rfl (w.heap.size + 1 + 1 + 1) 51 i0 (.agg #[.string ByteArray.empty, .string ByteArray.empty]) 2 32 Tryz.underlying54 hi hz0 hz1 hz2 rfl (by decide) _ KK (frs L0) rfl HOW.out ⟨wr.heap.size, 0, none⟩ 1 1 [.string P9, .string Q9] rfl rfl HNW.out (by simp [Value.oneCell']) (by unfold maxLen; omega) (by omega) HLE.out ?_))
      intro v' w4 hown4 hgrow4 _
      have HF : Hid (Mo w w4 (.slice (some ⟨x, y, none⟩) 2 c1) (.slice b1 N1 d1) (.slice (some ⟨x2, y2, none⟩) 2 c2) (.slice b2 N2 d2) v' (KK + 1) (L0 ++ [s9])) := HM2.out.grow (bl_trans HS.out.bl (bl_alloc (Below.refl _ _) _)) hgrow4 (by rw [HFR.out]; exact hown4)
      clear hown4 hgrow4 HM2 HS HOW HNW HLE HM k0 k1 k2 k3 v2 s0 s1
      go_wp2
      go_roundw
      case rel => exact ⟨k + 1, by omega, by go_num, by rw [← Nat.add_assoc, HKK.out, HX9.out]; exact HF.out⟩
      case measure => simp [intOf]; omega
    obtain rfl : q = k := by omega
    go_wp2
    go_roundw
    case rel => exact ⟨i + 1, by omega, by go_num, by rw [Nat.succ_mul]; exact HM.out⟩
    case measure => simp [intOf]; omega
  obtain rfl : p = i := by omega
  obtain ⟨ao, cap, ev, hrow⟩ := row_own9 HM.out.ow
  subst ev
  have HROW : Hid _ := hrow
  clear hrow h hi9
  obtain ⟨N9, hN9⟩ : ∃ N9, p * q = N9 := ⟨_, rfl⟩
  have HN9 : Hid (p * q = N9) := hN9
  have HALL : Hid _ := ml_all p n q qs rs
  rw [hN9] at HM HROW HALL ⊢
  rw [HALL.out] at HROW
  clear hN9 HALL
  have HBD : Hid (∀ t, t ∈ mm p n q qs rs → Bd t (n * (40 + 40 + 1) + 1)) := mm_bd H1.out H2.out
  go_upto_region 15 with fail
  have K0 : Hid _ := k0
  have K2 : Hid _ := k2
  have V0 : Hid _ := v0
  have V2 : Hid _ := v2
  clear k0 k1 k2 k3 v0 v1 v2
  refine region_inv_last 11 (by kernel_rfl) (by kernel_rfl) (fun L a v => ∃ s61 s62 s63 s64 s65 s66 s67 s68 s69 s70 s71, a = ⟨#[Value.agg #[Value.slice (some { block := x, off := y }) 2 c1, Value.slice b1 N1 d1], Value.agg #[Value.slice (some { block := x2, off := y2 }) 2 c2, Value.slice b2 N2 d2], Value.pointer (some { block := w.heap.size, off := 0 }), Value.pointer (some { block := w.heap.size + 1, off := 0 }), Value.pointer (some { block := w.heap.size + 1 + 1, off := 0 }), Value.int IntKind.i64 (n : Int), Value.slice ao N9 cap, Value.int IntKind.i64 (p : Int), u8, u9, u10, Value.pointer (some { block := w.heap.size, off := 0 }), Value.slice (some { block := x, off := y }) 2 c1, Value.pointer (some { block := x, off := y + 1 }), Value.int IntKind.i64 (n : Int), Value.int IntKind.i64 (p : Int), Value.pointer (some { block := w.heap.size, off := 0 }), Value.slice (some { block := x, off := y }) 2 c1, Value.pointer (some { block := x, off := y }), Value.int IntKind.i64 (p : Int), Value.bool false, u21, u22, u23, u24, u25, u26, u27, u28, u29, u30, u31, u32, u33, u34, u35, u36, u37, u38, u39, u40, u41, u42, u43, u44, u45, u46, u47, u48, u49, u50, u51, u52, u53, u54, u55, u56, u57, u58, u59, u60, s61, s62, s63, s64, s65, s66, s67, s68, s69, s70, s71], []⟩ ∧ Gm wr (none) (fun _ => True) (Nb (w.heap.size + 1 + 1 + 1) [(p : Int), (q : Int)] 2 N9 (mm p n q qs rs) (n * (40 + 40 + 1) + 1)) (.pointer (some ⟨w.heap.size, 0, none⟩)) (.slice (some ⟨x, y, none⟩) 2 c1) (.pointer (some ⟨x, y, none⟩)) (.int .i64 (p : Int)) (.pointer (some ⟨w.heap.size + 1, 0, none⟩)) (.slice (some ⟨x2, y2, none⟩) 2 c2) (.pointer (some ⟨x2, y2 + 1, none⟩)) (.int .i64 (q : Int)) (.slice ao N9 cap) L v s61 s62 s63 s64 s65 s66 s67 s68 s69 s70 s71) ?_ ?_ ?_
  · exact ⟨_, _, _, _, _, _, _, _, _, _, _, rfl, ⟨by simp, grown_below (bl_drew (Below.refl _ _)), fun _ _ _ => trivial, fun _ => trivial, fun g => absurd g (by simp [on]), fun g => absurd g (by simp [on]), fun g => absurd g (by simp [on]), fun g => absurd g (by simp [on]), fun g => absurd g (by simp [on]), fun g => absurd g (by simp [on]), fun g => absurd g (by simp [on]), fun g => absurd g (by simp [on]), fun g => absurd g (by simp [on]), fun g => absurd g (by simp [on]), fun g => absurd g (by simp [on]), fun _ _ => rfl, fun _ g => absurd g (by simp [on]), fun _ g => absurd g (by simp [on]), fun _ g => absurd g (by simp [on]), fun g => absurd g (by simp [on])⟩⟩
  · intro L a v i hL9 hI hrd
    obtain ⟨s61, s62, s63, s64, s65, s66, s67, s68, s69, s70, s71, rfl, hP⟩ := hI
    obtain ⟨hu, o9, ho, haf⟩ := mem_ready.1 hrd
    have hlt : i < 11 := by
      have := (Array.getElem?_eq_some_iff.1 ho).1
      simp at this
      omega
    have k0v := grown_cell hP.gb K0.out (by simp)
    have k2v := grown_cell hP.gb K2.out (by simp)
    have v0v := grown_cell hP.gb V0.out (by simp)
    have v2v := grown_cell hP.gb V2.out (by simp)
    rcases (by omega : i = 0 ∨ i = 1 ∨ i = 2 ∨ i = 3 ∨ i = 4 ∨ i = 5 ∨ i = 6 ∨ i = 7 ∨ i = 8 ∨ i = 9 ∨ i = 10) with rfl | rfl | rfl | rfl | rfl | rfl | rfl | rfl | rfl | rfl | rfl
    all_goals (cases ho; replace hu := off_of hu)
    · refine step_run rfl rfl ?_
      have hP2 := hP.t0 
      go_simp
      exact ⟨_, _, _, _, _, _, _, _, _, _, _, ⟨rfl, rfl, rfl, rfl, rfl, rfl, rfl, rfl, rfl, rfl, rfl⟩, hP2⟩
    · have g0 := haf { on := 0, ground := .data } (by simp) rfl
      have e0 := (hP.h0 g0).symm
      subst e0
      refine step_run rfl rfl ?_
      have hP2 := hP.t1 g0
      go_simp
      exact ⟨_, _, _, _, _, _, _, _, _, _, _, ⟨rfl, rfl, rfl, rfl, rfl, rfl, rfl, rfl, rfl, rfl, rfl⟩, hP2⟩
    · have g1 := haf { on := 1, ground := .data } (by simp) rfl
      have e1 := (hP.h1 g1).symm
      subst e1
      refine step_run rfl rfl ?_
      have hP2 := hP.t2 g1
      go_simp
      exact ⟨_, _, _, _, _, _, _, _, _, _, _, ⟨rfl, rfl, rfl, rfl, rfl, rfl, rfl, rfl, rfl, rfl, rfl⟩, hP2⟩
    · have g2 := haf { on := 2, ground := .data } (by simp) rfl
      have e2 := (hP.h2 g2).symm
      subst e2
      refine step_run rfl rfl ?_
      have hP2 := hP.t3 g2
      go_simp
      exact ⟨_, _, _, _, _, _, _, _, _, _, _, ⟨rfl, rfl, rfl, rfl, rfl, rfl, rfl, rfl, rfl, rfl, rfl⟩, hP2⟩
    · refine step_run rfl rfl ?_
      have hP2 := hP.t4 
      go_simp
      exact ⟨_, _, _, _, _, _, _, _, _, _, _, ⟨rfl, rfl, rfl, rfl, rfl, rfl, rfl, rfl, rfl, rfl, rfl⟩, hP2⟩
    · have g4 := haf { on := 4, ground := .data } (by simp) rfl
      have e4 := (hP.h4 g4).symm
      subst e4
      refine step_run rfl rfl ?_
      have hP2 := hP.t5 g4
      go_simp
      exact ⟨_, _, _, _, _, _, _, _, _, _, _, ⟨rfl, rfl, rfl, rfl, rfl, rfl, rfl, rfl, rfl, rfl, rfl⟩, hP2⟩
    · have g5 := haf { on := 5, ground := .data } (by simp) rfl
      have e5 := (hP.h5 g5).symm
      subst e5
      refine step_run rfl rfl ?_
      have hP2 := hP.t6 g5
      go_simp
      exact ⟨_, _, _, _, _, _, _, _, _, _, _, ⟨rfl, rfl, rfl, rfl, rfl, rfl, rfl, rfl, rfl, rfl, rfl⟩, hP2⟩
    · have g6 := haf { on := 6, ground := .data } (by simp) rfl
      have e6 := (hP.h6 g6).symm
      subst e6
      refine step_run rfl rfl ?_
      have hP2 := hP.t7 g6
      go_simp
      exact ⟨_, _, _, _, _, _, _, _, _, _, _, ⟨rfl, rfl, rfl, rfl, rfl, rfl, rfl, rfl, rfl, rfl, rfl⟩, hP2⟩
    · have g3 := haf { on := 3, ground := .data } (by simp) rfl
      have g7 := haf { on := 7, ground := .data } (by simp) rfl
      have e3 := (hP.h3 g3).symm
      have e7 := (hP.h7 g7).symm
      have ha : ¬ on L 10 := fun c => hu (hP.r10_8 c)
      subst e3 e7
      refine step_run rfl rfl ?_
      have hP2 := hP.t8 g3 g7 hu ha
      go_simp
      exact ⟨_, _, _, _, _, _, _, _, _, _, _, ⟨rfl, rfl, rfl, rfl, rfl, rfl, rfl, rfl, rfl, rfl, rfl⟩, hP2⟩
    · refine step_run rfl rfl ?_
      have hP2 := hP.t9 
      go_simp
      exact ⟨_, _, _, _, _, _, _, _, _, _, _, ⟨rfl, rfl, rfl, rfl, rfl, rfl, rfl, rfl, rfl, rfl, rfl⟩, hP2⟩
    · have g8 := haf { on := 8, ground := .data } (by simp) rfl
      have g9 := haf { on := 9, ground := .data } (by simp) rfl
      have e8 := (hP.h8 g8).symm
      have e9 := (hP.h9 g9).symm
      subst e8 e9
      refine step_run rfl rfl ?_
      have hc0 := hP.c0_0 (fun c => hu c) g8
      have hc1 := hP.c0_1 (fun c => hu c) g8
      unfold Oper.wp
      rw [run_two cf41 (.tmp 69) (.tmp 70) 22 54 rfl _ _ rfl rfl]
      have hbv := grown_none hP.gb
      refine (zofm (B := w.heap.size + 1 + 1 + 1) 2 cap hc0 hc1 (Row.below HROW.out hbv) (by rw [mm_len]; exact HN9.out) HR.out HBD.out (by omega) HM.out.sz (by have := HM.out.sz; have := hP.gb.size; omega) HN9.out.symm).mono ?_
      rintro e v2 ⟨x9, rfl, hN9, hb⟩
      have hP2 := hP.t10 g8 g9 (grown_below hb) hN9
      go_simp
      exact ⟨_, _, _, _, _, _, _, _, _, _, _, ⟨rfl, rfl, rfl, rfl, rfl, rfl, rfl, rfl, rfl, rfl, rfl⟩, hP2⟩
  · intro L a v hL9 hI hon
    obtain ⟨s61, s62, s63, s64, s65, s66, s67, s68, s69, s70, s71, rfl, hP⟩ := hI
    have e0 := (hP.h0 (hon 0 (by decide))).symm
    have e1 := (hP.h1 (hon 1 (by decide))).symm
    have e2 := (hP.h2 (hon 2 (by decide))).symm
    have e3 := (hP.h3 (hon 3 (by decide))).symm
    have e4 := (hP.h4 (hon 4 (by decide))).symm
    have e5 := (hP.h5 (hon 5 (by decide))).symm
    have e6 := (hP.h6 (hon 6 (by decide))).symm
    have e7 := (hP.h7 (hon 7 (by decide))).symm
    have e8 := (hP.h8 (hon 8 (by decide))).symm
    have e9 := (hP.h9 (hon 9 (by decide))).symm
    have hOA := hP.oa (hon 10 (by decide))
    have hGB := hP.gb
    clear hP hon hL9
    subst e0 e1 e2 e3 e4 e5 e6 e7 e8 e9
    refine step_run rfl rfl ?_
    obtain ⟨a9, c9, b9, d9, ev, hT9⟩ := hOA
    subst ev
    have hbv := grown_none hGB
    have hBX := HM.out.zb.bx.below hbv
    have hx0 := hBX.c0
    have hx1 := hBX.c1
    have hx2 := hBX.f0
    have hx3 := hBX.f1
    have HBX : Hid (Bx v (w.heap.size + 1 + 1) ∧ Below w.heap.size w v) := ⟨hBX, bl_trans HM.out.zb.bl hbv⟩
    have HT9 : Hid _ := hT9
    clear hBX hT9 hGB hbv HM HROW
    go_simp
    go_wp2
    refine bodyPost_ret (v := .agg #[.slice a9 2 c9, .slice b9 N9 d9]) (by simp [results, Tryz.results19, go_sem, (two_set HBX.out.1.c0 HBX.out.1.c1 _ _).1, (two_set HBX.out.1.c0 HBX.out.1.c1 _ _).2]) rfl ⟨_, rfl, ?_, ?_⟩
    · rw [HN9.out]
      exact ⟨_, _, _, _, rfl, ((HT9.out.tm.set (by simp) _).set (by simp) _).mono (by omega), HT9.out.tr, HT9.out.hm, HT9.out.hn⟩
    · exact bl_set (bl_set HBX.out.2 (by simp <;> omega) _) (by simp <;> omega) _
end Go.Proofs.YtbfboippaejnmaaGreatDoor.Tn
