/-
  THE BUILDER IN MEMORY: nodes in a slice of one's own, names in a map, the loss. Conditions: each theorem's own.
-/
import Derived.Test.YtadgnafafdfioaaGreatDoorBp
import Derived.Test.YtadgnafafdfioaaGreatDoorGr0
import Derived.Test.YtadgnafafdfioaaGreatDoorGsm
import Derived.Test.YtadgnafafdfioaaGreatDoorMl
import Derived.Test.YtadgnafafdfioaaGreatDoorSq
namespace Go.Proofs.YtadgnafafdfioaaGreatDoor.Gr
open Go.Proofs.YtadgnafafdfioaaGreatDoor.Rd
set_option maxRecDepth 100000
open Go.RowKit Go.Maps Go.ChangeMaps Go.WideMaps
set_option linter.unusedVariables false
set_option linter.unusedSimpArgs false

/-- names and their places -/
def bps : List ByteArray → Nat → List (ByteArray × Int)
  | [], _ => []
  | x :: l, k => (x, (k : Int)) :: bps l (k + 1)
theorem bps_fp (ns : List ByteArray) (x : ByteArray) (k : Nat) : fp (bps ns k) x = (fnd ns x).map fun j => ((k + j : Nat) : Int) := by
  induction ns generalizing k with
  | nil => rfl
  | cons y ns ih =>
    unfold bps fp fnd
    by_cases h : y = x
    · simp [h]
    · simp only [h, if_false]
      rw [ih, Option.map_map]
      congr 1
      funext j
      simp only [Function.comp]
      congr 1
      omega
theorem bps_snoc (ns : List ByteArray) (x : ByteArray) (k : Nat) : bps (ns ++ [x]) k = bps ns k ++ [(x, ((k + ns.length : Nat) : Int))] := by
  induction ns generalizing k with
  | nil => simp [bps]
  | cons y ns ih =>
    rw [List.cons_append]
    unfold bps
    rw [ih]
    simp only [List.cons_append, List.length_cons]
    congr 4
    omega
/-- a node by value, its shape and its data slices of one's own -/
def Sn (w : World) (u : Value) (nd : Nd) : Prop :=
  ∃ us ud, u = .agg #[.string nd.op, .int .i64 nd.a, .int .i64 nd.b, .string nd.name, us, .string nd.k, .int .i64 nd.n, ud] ∧ w.ownsRow 0 3 1 us nd.shape.length (Tn.nums nd.shape) ∧ w.ownsRow 0 9 1 ud nd.data.length (txts nd.data)
theorem Sn.below {w w' : World} {u : Value} {nd : Nd} (h : Sn w u nd) (hb : Below w.heap.size w w') : Sn w' u nd := by
  obtain ⟨us, ud, e, h1, h2⟩ := h
  exact ⟨us, ud, e, Lx.own_below h1 hb, Lx.own_below h2 hb⟩
theorem Sn.grown {w w' : World} {b2 n2 : Nat} {u v2 : Value} {nd : Nd} {x2 : List Value} (h : Sn w u nd) (h2 : w.ownsRow b2 28 8 v2 n2 x2) (hg : w.grownBy w' v2.ownBlock) : Sn w' u nd := by
  obtain ⟨us, ud, e, p1, p2⟩ := h
  exact ⟨us, ud, e, Lx.own_grown p1 h2 (by decide) hg, Lx.own_grown p2 h2 (by decide) hg⟩
/-- a row of one's own lies not where another kind of block is -/
theorem own_off {w : World} {b e s n D : Nat} {v : Value} {xs : List Value} {o : Obj} (h : w.ownsRow b e s v n xs) (hD : w.heap[D]? = some o) (ho : ∀ c, o ≠ .cells c e (0, 0)) : v.ownBlock = none ∨ v.ownBlock ≠ some D := by
  rcases h.2 with ⟨rfl, _⟩ | ⟨g, cap, cur, rfl, _, hg, _⟩
  · exact .inl rfl
  · right
    simp only [Value.ownBlock, ne_eq, Option.some.injEq]
    intro e'
    subst e'
    rw [hD] at hg
    cases hg
    exact ho _ rfl
theorem Sn.off {w w' : World} {D : Nat} {u : Value} {nd : Nd} {o : Obj} (h : Sn w u nd) (hD : w.heap[D]? = some o) (h3 : ∀ c, o ≠ .cells c 3 (0, 0)) (h9 : ∀ c, o ≠ .cells c 9 (0, 0)) (hg : w.grownBy w' (some D)) : Sn w' u nd := by
  obtain ⟨us, ud, e, p1, p2⟩ := h
  exact ⟨us, ud, e, p1.kept hg (own_off p1 hD h3), p2.kept hg (own_off p2 hD h9)⟩
def ncs : Value → List Value
  | .agg a => a.toList
  | _ => []
theorem ncs_len {w : World} {v : Value} {s : Nd} (h : Sn w v s) : (ncs v).length = 8 := by
  obtain ⟨us, ud, rfl, _⟩ := h
  rfl
def nflat (us : List Value) : List Value := us.flatMap ncs
theorem nflat_app (a b : List Value) : nflat (a ++ b) = nflat a ++ nflat b := by simp [nflat]
def Ln (w : World) : List Value → List Nd → Prop
  | [], [] => True
  | u :: us, s :: ss => Sn w u s ∧ Ln w us ss
  | _, _ => False
theorem Ln.mono {w w' : World} (hw : ∀ u s, Sn w u s → Sn w' u s) : ∀ {us : List Value} {ss : List Nd}, Ln w us ss → Ln w' us ss
  | [], [], _ => True.intro
  | u :: us, s :: ss, h => ⟨hw _ _ h.1, Ln.mono hw h.2⟩
  | [], _ :: _, h => h.elim
  | _ :: _, [], h => h.elim
theorem Ln.snoc {w : World} {u : Value} {s : Nd} (hu : Sn w u s) : ∀ {us : List Value} {ss : List Nd}, Ln w us ss → Ln w (us ++ [u]) (ss ++ [s])
  | [], [], _ => ⟨hu, True.intro⟩
  | p :: us, l :: ls, h => ⟨h.1, Ln.snoc hu h.2⟩
  | [], _ :: _, h => h.elim
  | _ :: _, [], h => h.elim
theorem nflat_at {w : World} : ∀ {us : List Value} {ss : List Nd}, Ln w us ss → ∀ {i : Nat}, i < ss.length → ∃ u, us[i]? = some u ∧ Sn w u (ss.getD i zn) ∧ ∀ j, j < 8 → (nflat us)[i * 8 + j]? = (ncs u)[j]?
  | [], [], _, i, hi => by simp at hi
  | u :: us, t :: ss, h, 0, hi => by
    refine ⟨u, rfl, h.1, fun j hj => ?_⟩
    have hl := ncs_len h.1
    have e : nflat (u :: us) = ncs u ++ nflat us := by simp [nflat]
    rw [e, Nat.zero_mul, Nat.zero_add, List.getElem?_append_left (by omega)]
  | u :: us, t :: ss, h, i + 1, hi => by
    obtain ⟨v, h1, h2, h3⟩ := nflat_at h.2 (i := i) (by simpa using hi)
    refine ⟨v, by simpa using h1, by simpa [List.getD] using h2, fun j hj => ?_⟩
    have hl := ncs_len h.1
    have e : nflat (u :: us) = ncs u ++ nflat us := by simp [nflat]
    rw [e, List.getElem?_append_right (by omega), hl, show (i + 1) * 8 + j - 8 = i * 8 + j by omega]
    exact h3 j hj
  | [], _ :: _, h, _, _ => h.elim
  | _ :: _, [], h, _, _ => h.elim
/-- a slice of nodes of one's own -/
structure Gn (w : World) (base : Nat) (v : Value) (us : List Value) (l : List Nd) : Prop where
  own : w.ownsRow base 28 8 v l.length (nflat us)
  all : Ln w us l
theorem Gn.nil (w : World) (base : Nat) : Gn w base (.slice none 0 0) [] [] := ⟨World.ownsRow_nil w base 28 8, True.intro⟩
theorem Gn.below {w w' : World} {base : Nat} {v : Value} {us : List Value} {l : List Nd} (h : Gn w base v us l) (hb : Below w.heap.size w w') : Gn w' base v us l := ⟨Lx.own_below h.own hb, h.all.mono fun u s h => h.below hb⟩
theorem Gn.mono {w : World} {base base' : Nat} {v : Value} {us : List Value} {l : List Nd} (h : Gn w base v us l) (hb : base' ≤ base) : Gn w base' v us l := ⟨Lx.own_mono h.own hb, h.all⟩
theorem Gn.snoc {w w' : World} {base : Nat} {v v' u : Value} {us : List Value} {l : List Nd} {s : Nd} (h : Gn w base v us l) (hu : Sn w u s)
    (hown : w'.ownsRow base 28 8 v' (l.length + 1) (nflat us ++ ncs u)) (hg : w.grownBy w' v.ownBlock) : Gn w' base v' (us ++ [u]) (l ++ [s]) := by
  have k : ∀ u s, Sn w u s → Sn w' u s := fun u s hu => hu.grown h.own hg
  refine ⟨?_, (h.all.mono k).snoc (k _ _ hu)⟩
  have e : nflat [u] = ncs u := by simp [nflat]
  rw [nflat_app, List.length_append, e]
  exact hown
theorem Gn.off {w w' : World} {base D : Nat} {v : Value} {us : List Value} {l : List Nd} {o : Obj} (h : Gn w base v us l) (hD : w.heap[D]? = some o) (h3 : ∀ c, o ≠ .cells c 3 (0, 0)) (h9 : ∀ c, o ≠ .cells c 9 (0, 0)) (h28 : ∀ c, o ≠ .cells c 28 (0, 0)) (hg : w.grownBy w' (some D)) : Gn w' base v us l :=
  ⟨h.own.kept hg (own_off h.own hD h28), h.all.mono fun u s hu => hu.off hD h3 h9 hg⟩
theorem Gn.form {w : World} {base : Nat} {v : Value} {us : List Value} {l : List Nd} (h : Gn w base v us l) : ∃ ao cap, v = .slice ao l.length cap ∧ l.length ≤ cap ∧ cap ≤ maxLen := by
  rcases h.own.2 with ⟨h1, h2⟩ | ⟨g, c, cur, h1, h2, h3, h4, h5, _⟩
  · exact ⟨none, 0, by rw [h1, h2], by omega, by unfold maxLen; omega⟩
  · exact ⟨some ⟨g, 0, none⟩, c, h1, h4, h5⟩
/-- as they are read -/
theorem Gn.nl {w : World} {base n cap : Nat} {ao : Option Addr} {us : List Value} {l : List Nd} (h : Gn w base (.slice ao n cap) us l) : Nl w ao l := by
  intro i hi
  obtain ⟨u, _, ⟨vs, vd, rfl, p1, p2⟩, hf⟩ := nflat_at h.all hi
  rcases h.own.2 with ⟨h1, h2⟩ | ⟨g, c, cur, h1, h2, h3, h4, h5, _⟩
  · omega
  · have e : ao = some ⟨g, 0, none⟩ := by simp only [Value.slice.injEq] at h1; exact h1.1
    obtain ⟨sa, sc, hse, hSr, _, _, _⟩ := Row.of_own p1
    obtain ⟨da, dc, hde, hDr, _, _, _⟩ := Row.of_own p2
    refine ⟨g, 0, ncl (l.getD i zn) sa sc da dc, e, ⟨sa, sc, da, dc, rfl, Tn.row_sl hSr, hDr⟩, fun j hj => ?_⟩
    have hg : (Value.slice ao n cap) = .slice (some ⟨g, 0, none⟩) l.length c := h1
    have hc := h.own
    rw [hg] at hc
    rw [Nat.zero_add, hc.cellAt (i * 8 + j) (by omega)]
    have := hf j hj
    rw [this]
    rw [hse, hde]
    rfl
/-- what has been built, in memory: the builder's own block D, the names' map M, both behind block B -/
structure Bs (w : World) (B D M : Nat) (v : Value) (us : List Value) (σ : St) : Prop where
  hD : B ≤ D
  hM : B ≤ M
  box : w.heap[D]? = some (.cells #[v, .map (some M), .int .i64 σ.loss] 69 (0, 0))
  map : Mz w M (bps σ.ns 0)
  nodes : Gn w B v us σ.l
theorem Bs.below {w w' : World} {B D M : Nat} {v : Value} {us : List Value} {σ : St} (h : Bs w B D M v us σ) (hb : Below w.heap.size w w') : Bs w' B D M v us σ :=
  ⟨h.hD, h.hM, by rw [hb.block D ((Array.getElem?_eq_some_iff.1 h.box).1)]; exact h.box, h.map.below hb h.map.lt, h.nodes.below hb⟩
theorem Bs.lt {w : World} {B D M : Nat} {v : Value} {us : List Value} {σ : St} (h : Bs w B D M v us σ) : D < w.heap.size := (Array.getElem?_eq_some_iff.1 h.box).1
theorem Bs.ne {w : World} {B D M : Nat} {v : Value} {us : List Value} {σ : St} (h : Bs w B D M v us σ) : D ≠ M := by
  intro e
  have h1 := h.box
  have h2 := h.map
  unfold Mz at h2
  rw [e, h2] at h1
  cases h1
theorem Bs.c0 {w : World} {B D M : Nat} {v : Value} {us : List Value} {σ : St} (h : Bs w B D M v us σ) : w.cell? ⟨D, 0, none⟩ = some v := by simp [World.cell?, h.box]
theorem Bs.c1 {w : World} {B D M : Nat} {v : Value} {us : List Value} {σ : St} (h : Bs w B D M v us σ) : w.cell? ⟨D, 1, none⟩ = some (.map (some M)) := by simp [World.cell?, h.box]
theorem Bs.c2 {w : World} {B D M : Nat} {v : Value} {us : List Value} {σ : St} (h : Bs w B D M v us σ) : w.cell? ⟨D, 2, none⟩ = some (.int .i64 σ.loss) := by simp [World.cell?, h.box]
theorem Bs.frz {w : World} {B D M : Nat} {v : Value} {us : List Value} {σ : St} (h : Bs w B D M v us σ) (i : Nat) : w.frozen? ⟨D, i, none⟩ = false := by simp [World.frozen?, h.box]
end Go.Proofs.YtadgnafafdfioaaGreatDoor.Gr
