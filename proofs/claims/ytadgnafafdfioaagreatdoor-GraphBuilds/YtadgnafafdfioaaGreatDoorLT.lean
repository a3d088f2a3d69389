/-
  WHAT THE ROWS LIST GIVES A WALK; WHAT AN ARGUMENT THAT IS A SLICE OF TEXTS HOLDS. No conditions.
-/
import Derived.Test.YtadgnafafdfioaaGreatDoorRows
import Derived.Test.YtadgnafafdfioaaGreatDoorTell
import Derived.Test.YtadgnafafdfioaaGreatDoorTs
import Derived.Stop.LaidErr
import Derived.LaidMore
import Derived.Lib.LaidTab
import Derived.LaidHandle
import Derived.SevenTiedAt
import Derived.ProofKit
import Derived.OpenShut
import Derived.SliceStrings
import Derived.Test.YtadgnafafdfioaaGreatDoorGX
import Derived.WalkKit
import Derived.Lib.SmallJoins
namespace Go.Proofs.YtadgnafafdfioaaGreatDoor.Rd
set_option maxRecDepth 100000
open Go.RowKit Go.ChangeShapes Go.WideShapes
set_option linter.unusedVariables false

/-- what the rows list -/
abbrev listed : List (String × DataW Unit) := [("tapewright/rat.errForm", Rows.laid_tapewright_rat_errForm)]
theorem door_met (os : Os) (args : Array Value) : laidMetH Tryz.prog listed ((World.doorLaid Tryz.prog 400 os).forCall (fun _ _ => 0) ⟨#[], args, []⟩).memory :=
  laidMetH_of_parts3 (fuel := 8) (laidMet_of_run' 8 (by kernel_rfl) (by kernel_rfl)) (by kernel_rfl) (by kernel_rfl)
theorem door_shaped (os : Os) (args : Array Value) : World.Shaped Tryz.prog ((World.doorLaid Tryz.prog 400 os).forCall (fun _ _ => 0) ⟨#[], args, []⟩) :=
  World.shaped_of_RefB (by kernel_rfl) (by kernel_rfl)
theorem stand9 : Tryz.prog.wantsStandIn 9 = false := by kernel_rfl
theorem stand22 : Tryz.prog.wantsStandIn 26 = false := by kernel_rfl
theorem star_is : "*" ++ "errors.errorString" = "*errors.errorString" := by decide
theorem row_ptr (u : TypeId) (h : Tryz.prog.typeName? 3 u = some "*errors.errorString") : u = 161 :=
  typeName_ptr_named (nm := "errors.errorString") (by rw [star_is]; kernel_rfl) (by kernel_rfl) (by decide) u (by rw [star_is]; exact h)
theorem er_of {W : World} (h : laidMetH Tryz.prog listed W) : ∃ aF aZ, Er W aF aZ := by
  have hl : laidMet Tryz.prog [("tapewright/rat.errForm", Rows.laid_tapewright_rat_errForm)] W := h
  have gF : Tryz.prog.globalNamed "tapewright/rat.errForm" = some 0 := by kernel_rfl
  have tF : (Tryz.prog.globals[0]?).map (·.type) = some 98 := by kernel_rfl
  have c182 : Tryz.prog.cellsOf 176 = 1 := by kernel_rfl
  have c9 : Tryz.prog.cellsOf 9 = 1 := by kernel_rfl
  obtain ⟨a0, s0, hv0, _⟩ := laid_sentinel hl gF tF Tryz.underlying98 row_ptr Tryz.underlying161 Tryz.underlying176 rfl rfl Tryz.underlying9 c182 c9
  exact ⟨a0, a0, ⟨by simpa using World.var?_cell gF hv0 0⟩⟩

theorem cells9 : Tryz.prog.cellsOf 9 = 1 := by kernel_rfl
theorem laidOut : laidOutB Tryz.prog = true := by kernel_rfl
theorem opened {H : Type} {enc : TypeId × Value → H} {W : World} {d : DataW H} {p : List MemPlace} {a : Option Addr} {len cap : Nat}
    (h : DataW.Trod enc Tryz.prog W 0 (fun _ => true) true 26 (.slice a len cap) d p) : ∃ zs : List ByteArray, len = zs.length ∧ Row W a (txts zs) ∧ len ≤ cap ∧ cap ≤ maxLen := by
  obtain ⟨fuel, hf⟩ := h
  rcases Go.ChangeShapes.open_strings Tryz.underlying26 Tryz.underlying9 cells9 hf with ⟨hcs, hx⟩ | ⟨a', len', cap', zs, hcs, _, hl, hm, hz, hx, hcell, hwz⟩
  · simp [Value.cells] at hcs
    obtain ⟨rfl, rfl, rfl⟩ := hcs
    exact ⟨[], rfl, Row.nil _ _, Nat.le_refl _, by unfold maxLen; omega⟩
  · simp [Value.cells] at hcs
    obtain ⟨rfl, rfl, rfl⟩ := hcs
    rw [if_pos rfl] at hz
    refine ⟨zs.take len, by simp; omega, fun i v hi => ?_, hl, hm⟩
    have hil : i < len := by
      have := (List.getElem?_eq_some_iff.1 hi).1
      simp [txts] at this; omega
    have hc := hcell i (by omega)
    have hv : v = .string (zs.getD i ByteArray.empty) := by
      have hiz : i < zs.length := by omega
      unfold txts at hi
      rw [List.getElem?_map, List.getElem?_take, if_pos hil, List.getElem?_eq_getElem hiz] at hi
      simp only [Option.map_some, Option.some.injEq] at hi
      rw [← hi, List.getD_eq_getElem?_getD, List.getElem?_eq_getElem hiz]
      rfl
    obtain ⟨b, off, spot⟩ := a'
    have hspot : spot = none := by simpa [Addr.add] using World.cell?_spot (hcell 0 (by omega))
    subst hspot
    exact ⟨b, off, rfl, by rw [← row_add, hv]; exact hc⟩
end Go.Proofs.YtadgnafafdfioaaGreatDoor.Rd
/-
  WHAT AN ARGUMENT HOLDS, OUT OF HOW IT READS: a graph, a node. Conditions: none.
-/
namespace Go.Proofs.YtadgnafafdfioaaGreatDoor.Gr
open Go.ChangeShapes Go.WideShapes Go.ChangeAt Go.RowKit
open Go.Proofs.YtadgnafafdfioaaGreatDoor.Rd
set_option maxRecDepth 100000
set_option linter.unusedVariables false
set_option linter.unusedSimpArgs false

theorem row_of_cells {w : World} {a : Addr} {f : Nat → Value} {n : Nat} {vs : List Value} (h : ∀ i, i < n → w.cell? (a.add i) = some (f i)) (hl : vs.length ≤ n) (he : ∀ i, i < vs.length → vs[i]? = some (f i)) : Row w (some a) vs := by
  intro i v hi
  have hi2 : i < vs.length := (List.getElem?_eq_some_iff.1 hi).1
  obtain ⟨b, off, spot⟩ := a
  have hspot : spot = none := by simpa [Addr.add] using World.cell?_spot (h 0 (by omega))
  subst hspot
  refine ⟨b, off, rfl, ?_⟩
  have := h i (by omega)
  rw [row_add] at this
  rw [this, ← he i hi2, hi]
theorem opened_nums {H : Type} {enc : TypeId × Value → H} {P : Program} {W : World} {t e : TypeId} (ht : P.underlying t = some (.slice e)) (he : P.underlying e = some (.int .i64)) (hc : P.cellsOf e = 1)
    {fuel : Nat} {c : Value} {x : DataW H × List MemPlace} (h : DataW.trod enc P W 0 (fun _ => true) true fuel t [c] = some x) :
    ∃ (ao : Option Addr) (zs : List Int) (cap : Nat), c = .slice ao zs.length cap ∧ Row W ao (Tn.nums zs) := by
  rcases open_ints ht he hc h with ⟨hcs, hx⟩ | ⟨a', len', cap', zs, hcs, _, hl, hm, hz, hx, hcell, hwz⟩
  · simp at hcs
    subst hcs
    exact ⟨none, [], 0, rfl, Row.nil _ _⟩
  · simp at hcs
    subst hcs
    rw [if_pos rfl] at hz
    have hlen : (zs.take len').length = len' := by rw [List.length_take]; omega
    refine ⟨some a', zs.take len', cap', by rw [hlen], row_of_cells hcell (by simp [Tn.nums]; omega) (fun i hi => ?_)⟩
    have hi2 : i < len' ∧ i < zs.length := by simp [Tn.nums] at hi; omega
    simp [Tn.nums, List.getD, hi2.1, hi2.2]
theorem opened_txts {H : Type} {enc : TypeId × Value → H} {P : Program} {W : World} {t e : TypeId} (ht : P.underlying t = some (.slice e)) (he : P.underlying e = some .string) (hc : P.cellsOf e = 1)
    {fuel : Nat} {c : Value} {x : DataW H × List MemPlace} (h : DataW.trod enc P W 0 (fun _ => true) true fuel t [c] = some x) :
    ∃ (ao : Option Addr) (xs : List ByteArray) (cap : Nat), c = .slice ao xs.length cap ∧ Row W ao (txts xs) := by
  rcases open_strings ht he hc h with ⟨hcs, hx⟩ | ⟨a', len', cap', zs, hcs, _, hl, hm, hz, hx, hcell, hwz⟩
  · simp at hcs
    subst hcs
    exact ⟨none, [], 0, rfl, Row.nil _ _⟩
  · simp at hcs
    subst hcs
    rw [if_pos rfl] at hz
    have hlen : (zs.take len').length = len' := by rw [List.length_take]; omega
    refine ⟨some a', zs.take len', cap', by rw [hlen], row_of_cells hcell (by rw [txts_len]; omega) (fun i hi => ?_)⟩
    have hi2 : i < len' ∧ i < zs.length := by rw [txts_len] at hi; omega
    simp [txts, List.getD, hi2.1, hi2.2]
theorem tr_str {H : Type} {enc : TypeId × Value → H} {P : Program} {W : World} {t : TypeId} (ht : P.underlying t = some .string) {fuel : Nat} {cs : List Value} {x : DataW H × List MemPlace} (h : DataW.trod enc P W 0 (fun _ => true) true fuel t cs = some x) : ∃ s : ByteArray, cs = [.string s] := by
  cases fuel with
  | zero => simp [DataW.trod] at h
  | succ m =>
    unfold DataW.trod at h
    rw [ht] at h
    split at h <;> simp_all
theorem tr_int {H : Type} {enc : TypeId × Value → H} {P : Program} {W : World} {t : TypeId} (ht : P.underlying t = some (.int .i64)) {fuel : Nat} {cs : List Value} {x : DataW H × List MemPlace} (h : DataW.trod enc P W 0 (fun _ => true) true fuel t cs = some x) : ∃ k : Int, cs = [.int .i64 k] := by
  cases fuel with
  | zero => simp [DataW.trod] at h
  | succ m =>
    unfold DataW.trod at h
    rw [ht] at h
    split at h <;> simp_all
theorem tr_one {H : Type} {enc : TypeId × Value → H} {P : Program} {W : World} {t e : TypeId} (ht : P.underlying t = some (.slice e)) {fuel : Nat} {cs : List Value} {x : DataW H × List MemPlace} (h : DataW.trod enc P W 0 (fun _ => true) true fuel t cs = some x) : ∃ v, cs = [v] := by
  rcases DataW.trod_slice ht h with ⟨hc, _⟩ | ⟨a, l, c, _, _, _, _, hc, _⟩
  · exact ⟨_, hc⟩
  · exact ⟨_, hc⟩
theorem cells28 : Tryz.prog.cellsOf 28 = 8 := by kernel_rfl
theorem cells24 : Tryz.prog.cellsOf 24 = 2 := by kernel_rfl
theorem cells3g : Tryz.prog.cellsOf 3 = 1 := by kernel_rfl
theorem cells9g : Tryz.prog.cellsOf 9 = 1 := by kernel_rfl
theorem cells25g : Tryz.prog.cellsOf 25 = 1 := by kernel_rfl
theorem cells26g : Tryz.prog.cellsOf 26 = 1 := by kernel_rfl
theorem stand24 : Tryz.prog.wantsStandIn 24 = false := by kernel_rfl
theorem stand28 : Tryz.prog.wantsStandIn 28 = false := by kernel_rfl
theorem stand3 : Tryz.prog.wantsStandIn 3 = false := by kernel_rfl
theorem eight {cs : List Value} (h : cs.length = 8) : ∃ a b c d e f g i, cs = [a, b, c, d, e, f, g, i] := by
  match cs, h with
  | [a, b, c, d, e, f, g, i], _ => exact ⟨a, b, c, d, e, f, g, i, rfl⟩
/-- the cells of a node that reads -/
theorem opened_cells {H : Type} {enc : TypeId × Value → H} {W : World} {fuel : Nat} {cs : List Value} {x : DataW H × List MemPlace} (h : DataW.trod enc Tryz.prog W 0 (fun _ => true) true fuel 28 cs = some x) :
    ∃ nd sa sc da dc, cs = ncl nd sa sc da dc ∧ Sp.Sl W sa nd.shape ∧ Row W da (txts nd.data) := by
  obtain ⟨xs, n, rfl, hx, hl, hxl, hf⟩ := DataW.trod_struct Tryz.underlying28 h
  rw [cells28] at hl
  obtain ⟨v0, v1, v2, v3, v4, v5, v6, v7, rfl⟩ := eight hl
  have hxs : ∀ i, i < 8 → ∃ y, xs[i]? = some y := fun i hi => ⟨xs[i]'(by rw [hxl]; exact hi), List.getElem?_eq_getElem _⟩
  obtain ⟨y0, e0⟩ := hxs 0 (by omega)
  obtain ⟨y1, e1⟩ := hxs 1 (by omega)
  obtain ⟨y2, e2⟩ := hxs 2 (by omega)
  obtain ⟨y3, e3⟩ := hxs 3 (by omega)
  obtain ⟨y4, e4⟩ := hxs 4 (by omega)
  obtain ⟨y5, e5⟩ := hxs 5 (by omega)
  obtain ⟨y6, e6⟩ := hxs 6 (by omega)
  obtain ⟨y7, e7⟩ := hxs 7 (by omega)
  have f0 : DataW.trod enc Tryz.prog W 0 (fun _ => true) true n 9 (([v0, v1, v2, v3, v4, v5, v6, v7].drop 0).take (Tryz.prog.cellsOf 9)) = xs[0]? := hf 0 _ rfl
  have f1 : DataW.trod enc Tryz.prog W 0 (fun _ => true) true n 3 (([v0, v1, v2, v3, v4, v5, v6, v7].drop 1).take (Tryz.prog.cellsOf 3)) = xs[1]? := hf 1 _ rfl
  have f2 : DataW.trod enc Tryz.prog W 0 (fun _ => true) true n 3 (([v0, v1, v2, v3, v4, v5, v6, v7].drop 2).take (Tryz.prog.cellsOf 3)) = xs[2]? := hf 2 _ rfl
  have f3 : DataW.trod enc Tryz.prog W 0 (fun _ => true) true n 9 (([v0, v1, v2, v3, v4, v5, v6, v7].drop 3).take (Tryz.prog.cellsOf 9)) = xs[3]? := hf 3 _ rfl
  have f4 : DataW.trod enc Tryz.prog W 0 (fun _ => true) true n 25 (([v0, v1, v2, v3, v4, v5, v6, v7].drop 4).take (Tryz.prog.cellsOf 25)) = xs[4]? := hf 4 _ rfl
  have f5 : DataW.trod enc Tryz.prog W 0 (fun _ => true) true n 9 (([v0, v1, v2, v3, v4, v5, v6, v7].drop 5).take (Tryz.prog.cellsOf 9)) = xs[5]? := hf 5 _ rfl
  have f6 : DataW.trod enc Tryz.prog W 0 (fun _ => true) true n 3 (([v0, v1, v2, v3, v4, v5, v6, v7].drop 6).take (Tryz.prog.cellsOf 3)) = xs[6]? := hf 6 _ rfl
  have f7 : DataW.trod enc Tryz.prog W 0 (fun _ => true) true n 26 (([v0, v1, v2, v3, v4, v5, v6, v7].drop 7).take (Tryz.prog.cellsOf 26)) = xs[7]? := hf 7 _ rfl
  rw [e0] at f0
  rw [e1] at f1
  rw [e2] at f2
  rw [e3] at f3
  rw [e4] at f4
  rw [e5] at f5
  rw [e6] at f6
  rw [e7] at f7
  rw [cells9g] at f0
  rw [cells3g] at f1
  rw [cells3g] at f2
  rw [cells9g] at f3
  rw [cells25g] at f4
  rw [cells9g] at f5
  rw [cells3g] at f6
  rw [cells26g] at f7
  obtain ⟨s0, q0⟩ := tr_str Tryz.underlying9 f0
  obtain ⟨s1, q1⟩ := tr_int Tryz.underlying3 f1
  obtain ⟨s2, q2⟩ := tr_int Tryz.underlying3 f2
  obtain ⟨s3, q3⟩ := tr_str Tryz.underlying9 f3
  obtain ⟨ao, zs, zc, q4, hz⟩ := opened_nums Tryz.underlying25 Tryz.underlying3 cells3g f4
  obtain ⟨s5, q5⟩ := tr_str Tryz.underlying9 f5
  obtain ⟨s6, q6⟩ := tr_int Tryz.underlying3 f6
  obtain ⟨do', xs', xc, q7, hd⟩ := opened_txts Tryz.underlying26 Tryz.underlying9 cells9g f7
  simp at q0 q1 q2 q3 q5 q6
  refine ⟨⟨s0, s1, s2, s3, zs, s5, s6, xs'⟩, ao, zc, do', xc, ?_, Tn.row_sl hz, hd⟩
  unfold ncl
  rw [q0, q1, q2, q3, q4, q5, q6, q7]
theorem build_list {α : Type} (d : α) (n : Nat) (P : Nat → α → Prop) (h : ∀ i, i < n → ∃ x, P i x) : ∃ l : List α, l.length = n ∧ ∀ i, i < n → P i (l.getD i d) := by
  induction n with
  | zero => exact ⟨[], rfl, fun i hi => by omega⟩
  | succ n ih =>
    obtain ⟨l, hl, hp⟩ := ih (fun i hi => h i (by omega))
    obtain ⟨x, hx⟩ := h n (by omega)
    refine ⟨l ++ [x], by simp [hl], fun i hi => ?_⟩
    by_cases e : i = n
    · subst e
      have : (l ++ [x]).getD i d = x := by simp [List.getD, ← hl]
      rw [this]; exact hx
    · have : (l ++ [x]).getD i d = l.getD i d := by
        rw [List.getD_eq_getElem?_getD, List.getD_eq_getElem?_getD, List.getElem?_append_left (by omega)]
      rw [this]; exact hp i (by omega)
/-- a slice of nodes that reads -/
theorem opened_nodes {H : Type} {enc : TypeId × Value → H} {W : World} {fuel : Nat} {v : Value} {x : DataW H × List MemPlace} (h : DataW.trod enc Tryz.prog W 0 (fun _ => true) true fuel 22 [v] = some x) :
    ∃ ao l c, v = .slice ao l.length c ∧ Nl W ao l ∧ l.length ≤ c ∧ c ≤ maxLen := by
  rcases DataW.trod_slice Tryz.underlying22 h with ⟨hc, _⟩ | ⟨a, len, cap, elems, rest, n, _, hc, _, _, hlc, hcm, hel, hE, _, _⟩
  · simp at hc
    subst hc
    exact ⟨none, [], 0, rfl, (fun i hi => by cases hi), Nat.le_refl _, by unfold maxLen; omega⟩
  · simp at hc
    subst hc
    have key : ∀ i, i < len → ∃ nd, ∃ cs, Nc W cs nd ∧ ∀ j, j < 8 → W.cell? ((a.add (i * 8)).add j) = cs[j]? := fun i hi => by
      have e := hE i hi
      rw [List.getElem?_eq_getElem (by omega), Option.bind_eq_some_iff] at e
      obtain ⟨cs, hcs, ht⟩ := e
      obtain ⟨nd, sa, sc, da, dc, rfl, hS, hD⟩ := opened_cells ht
      obtain ⟨_, _, hcell⟩ := World.cells?_some hcs
      rw [cells28] at hcell
      exact ⟨nd, _, ⟨sa, sc, da, dc, rfl, hS, hD⟩, hcell⟩
    obtain ⟨l, hl, hp⟩ := build_list zn len (fun i nd => ∃ cs, Nc W cs nd ∧ ∀ j, j < 8 → W.cell? ((a.add (i * 8)).add j) = cs[j]?) key
    refine ⟨some a, l, cap, by rw [hl], fun i hi => ?_, by omega, hcm⟩
    obtain ⟨cs, hn, hcell⟩ := hp i (by omega)
    obtain ⟨b, off, spot⟩ := a
    obtain ⟨cs0, hn0, hcell0⟩ := hp 0 (by omega)
    obtain ⟨sa, sc, da, dc, rfl, _⟩ := hn0
    obtain ⟨x0, hx0⟩ := ncl_at (l.getD 0 zn) sa sc da dc (j := 0) (by omega)
    have h00 := hcell0 0 (by omega)
    rw [hx0] at h00
    have hspot : spot = none := by
      have := World.cell?_spot h00
      simpa [Addr.add] using this
    subst hspot
    refine ⟨b, off, _, rfl, hn, fun j hj => ?_⟩
    have := hcell j hj
    rw [row_add, row_add] at this
    exact this
/-- a graph -/
theorem opened_graph {H : Type} {enc : TypeId × Value → H} {W : World} {r : Reach} {b0 : Nat} {v : Value} {d : DataW H} {p : List MemPlace} (hv : Value.okWide Tryz.prog W r b0 24 v) (h : DataW.Trod enc Tryz.prog W 0 (fun _ => true) true 24 v d p) :
    ∃ ao l c loss, v = .agg #[.slice ao (List.length l) c, .int .i64 loss] ∧ Nl W ao l ∧ l.length ≤ c ∧ c ≤ maxLen := by
  obtain ⟨v0, v1, y0, y1, n, rfl, _, _, h0, h1⟩ := Joins.open_agg2 Tryz.underlying24 (by kernel_rfl) cells24 hv h
  obtain ⟨ao, l, c, rfl, hl, k1, k2⟩ := opened_nodes h0
  obtain ⟨k, hk⟩ := tr_int Tryz.underlying3 h1
  simp at hk
  subst hk
  exact ⟨ao, l, c, k, rfl, hl, k1, k2⟩
/-- a node -/
theorem opened_node {H : Type} {enc : TypeId × Value → H} {W : World} {r : Reach} {b0 : Nat} {v : Value} {d : DataW H} {p : List MemPlace} (hv : Value.okWide Tryz.prog W r b0 28 v) (h : DataW.Trod enc Tryz.prog W 0 (fun _ => true) true 28 v d p) :
    ∃ nd sa sc da dc, v = nv nd sa sc da dc ∧ Sp.Sl W sa nd.shape ∧ Row W da (txts nd.data) := by
  obtain ⟨cs, rfl, _⟩ := okWide_struct Tryz.underlying28 hv
  obtain ⟨fuel, hf⟩ := h
  obtain ⟨nd, sa, sc, da, dc, e, hS, hD⟩ := opened_cells hf
  refine ⟨nd, sa, sc, da, dc, ?_, hS, hD⟩
  have e' : cs.toList = ncl nd sa sc da dc := e
  unfold nv
  rw [← e']
end Go.Proofs.YtadgnafafdfioaaGreatDoor.Gr
