/-
  THE DOCUMENT's find; WHAT ITS Build HAS BUILT, in memory. Conditions: each theorem's own.
-/
import Derived.Test.YtadgnafafdfioaaGreatDoorGz
import Derived.Test.YtadgnafafdfioaaGreatDoorBB
namespace Go.Proofs.YtadgnafafdfioaaGreatDoor.Gr
open Go.Proofs.YtadgnafafdfioaaGreatDoor.Rd
set_option maxRecDepth 100000
open Go.RowKit
set_option linter.unusedVariables false
set_option linter.unusedSimpArgs false

/-- the place of a name; -1: it is not there -/
def fni (ns : List ByteArray) (x : ByteArray) : Int := match fnd ns x with | some k => (k : Int) | none => -1
theorem fnd_first : ∀ {ns : List ByteArray} {x : ByteArray} {k : Nat}, k < ns.length → (∀ j, j < k → ns.getD j em ≠ x) → ns.getD k em = x → fnd ns x = some k
  | y :: ns, x, 0, _, _, h => by
    unfold fnd
    have e : y = x := h
    rw [if_pos e]
  | y :: ns, x, k + 1, hk, hj, h => by
    unfold fnd
    have h0 : ¬ y = x := hj 0 (by omega)
    rw [if_neg h0, fnd_first (k := k) (by simpa using hk) (fun j hj' => by simpa using hj (j + 1) (by omega)) (by simpa using h)]
    rfl
theorem fnd_nowhere {ns : List ByteArray} {x : ByteArray} (h : ∀ j, j < ns.length → ns.getD j em ≠ x) : fnd ns x = none := by
  rw [fnd_none]
  intro hm
  obtain ⟨j, hj, e⟩ := List.getElem_of_mem hm
  exact h j hj (by simp [List.getD, hj, e])
theorem refFind_any (ns : List ByteArray) (ao : Option Addr) (c : Nat) (v : ByteArray) (w : World) (hl : ns.length ≤ 1000000) (hR : Row w ao (txts ns)) :
    Calls Tryz.prog 32 #[.slice ao ns.length c, .string v] w fun e w' => e = .returned (.int .i64 (fni ns v)) ∧ w' = w := by
  have HR : Hid _ := fun i (h : i < ns.length) => row_s hR h
  clear hR
  have HY : Hid (∀ k, k < ns.length → (∀ j, j < k → ns.getD j em ≠ v) → ns.getD k em = v → fni ns v = (k : Int)) := fun k hk hj h => by unfold fni; rw [fnd_first hk hj h]
  have HN : Hid ((∀ j, j < ns.length → ns.getD j em ≠ v) → fni ns v = -1) := fun h => by unfold fni; rw [fnd_nowhere h]
  obtain ⟨R, hR⟩ : ∃ R, fni ns v = R := ⟨_, rfl⟩
  rw [hR] at HY HN ⊢
  clear hR
  obtain ⟨n, hn⟩ : ∃ n, ns.length = n := ⟨_, rfl⟩
  rw [hn] at HR HY HN hl ⊢
  clear hn
  go_enter Tryz.func32, Tryz.ntmps32
  go_wp2_with fail
  go_loop [5] (fun i => ∃ k : Nat, k ≤ n ∧ i = .int .i64 (k : Int) ∧ (∀ j, j < k → ns.getD j em ≠ v)) (fun i => n - (intOf i).toNat)
  case atStart => exact ⟨0, by omega, rfl, fun j hj => by omega⟩
  case round =>
    obtain ⟨k, hk, rfl, hj⟩ := hrel
    have HJ : Hid _ := hj
    clear hj
    by_cases h : k < n
    · obtain ⟨b, off, rfl, hc⟩ := HR.out k h
      obtain ⟨x, hx⟩ : ∃ z, ns.getD k em = z := ⟨_, rfl⟩
      rw [hx] at hc
      have HX : Hid _ := hx
      clear hx
      by_cases he : x = v
      · have HE : Hid (R = (k : Int)) := HY.out k h HJ.out (HX.out.trans he)
        have hb : (x.toList == v.toList) = true := by rw [he]; exact beq_self_eq_true _
        clear he
        go_wp2
        go_ret
        exact ⟨by rw [HE.out]; rfl, rfl⟩
      · have hb : (x.toList == v.toList) = false := list_ne he
        have HE : Hid _ := he
        clear he
        go_wp2
        go_round
        case rel =>
          refine ⟨k + 1, by omega, by go_num, fun j hj => ?_⟩
          by_cases e : j = k
          · rw [e, HX.out]; exact HE.out
          · exact HJ.out j (by omega)
        case measure => simp [intOf]; omega
    · obtain rfl : k = n := by omega
      have HE : Hid (R = -1) := HN.out HJ.out
      go_wp2
      go_ret
      exact ⟨by rw [HE.out]; rfl, rfl⟩

/-- one store, as growth of its block alone -/
theorem grown_cell (w : World) (p : Addr) (x : Value) : w.grownBy (w.setCell p x) (some p.block) := ⟨rfl, rfl, rfl, by simp, fun k _ hk => heap_setCell_other w p k x (fun e => hk (by simp [e]))⟩
/-- what is below a number, or a block of ints, stands -/
def Kq (B : Nat) (w v : World) : Prop := w.heap.size ≤ v.heap.size ∧ ∀ b, b < w.heap.size → (b < B ∨ ∃ c, w.heap[b]? = some (.cells c 3 (0, 0))) → v.heap[b]? = w.heap[b]?
theorem Kq.of {B : Nat} {w v : World} (h : Below w.heap.size w v) : Kq B w v := ⟨h.size, fun b hb _ => h.block b hb⟩
theorem Kq.trans {B : Nat} {w v u : World} (h1 : Kq B w v) (h2 : Kq B v u) : Kq B w u := ⟨Nat.le_trans h1.1 h2.1, fun b hb h => by
  have e := h1.2 b hb h
  rw [h2.2 b (Nat.lt_of_lt_of_le hb h1.1) (h.imp id fun ⟨c, hc⟩ => ⟨c, by rw [e]; exact hc⟩), e]⟩
theorem Kq.grown {B e s n : Nat} {w v : World} {x : Value} {xs : List Value} (ho : w.ownsRow B e s x n xs) (he : e ≠ 3) (hg : w.grownBy v x.ownBlock) : Kq B w v := ⟨hg.size, fun b hb h => by
  refine hg.block b hb fun c => ?_
  rcases h with h | ⟨d, hd⟩
  · have := (ho.lt b c.symm).1; omega
  · rcases own_off ho hd (fun c2 e2 => by cases e2; exact he rfl) with h1 | h1
    · rw [h1] at c; cases c
    · exact h1 c.symm⟩
theorem Kq.set {B D k : Nat} {w : World} {o : Obj} (hD : w.heap[D]? = some o) (h3 : ∀ c, o ≠ .cells c 3 (0, 0)) (hB : B ≤ D) (x : Value) : Kq B w (w.setCell ⟨D, k, none⟩ x) := by
  refine ⟨by simp, fun b hb h => heap_setCell_other _ _ _ _ (fun e => ?_)⟩
  have e' : b = D := e
  subst e'
  rcases h with h | ⟨c, hc⟩
  · omega
  · rw [hD] at hc
    cases hc
    exact h3 _ rfl
theorem Pz.kq {B : Nat} {w v : World} {a : Option Addr} (h : Pz B w a) (hk : Kq B w v) : Pz B v a := fun x hx => by
  obtain ⟨h1, h2⟩ := h x hx
  exact ⟨Nat.lt_of_lt_of_le h1 hk.1, h2.imp id fun ⟨c, hc⟩ => ⟨c, by rw [hk.2 _ h1 (.inr ⟨c, hc⟩)]; exact hc⟩⟩
theorem Pe.kq {B : Nat} {w v : World} {a : Option Addr} {s : List Int} (h : Pe B w a s) (hk : Kq B w v) : Pe B v a s := h.imp id fun h => h.kq hk
theorem sl_kq {B : Nat} {w v : World} {a : Option Addr} {s : List Int} (hs : Sp.Sl w a s) (h : Pe B w a s) (hk : Kq B w v) : Sp.Sl v a s := by
  rcases h with rfl | h
  · exact Sp.Sl.nil _ _
  · intro i hi
    obtain ⟨b, off, e, hc⟩ := hs i hi
    obtain ⟨h1, h2⟩ := h _ e
    refine ⟨b, off, e, ?_⟩
    have := hk.2 b h1 h2
    rw [World.cell?_of_block (a := ⟨b, off + i, none⟩) this]
    exact hc
/-- a node, by value: its shape lies below or among ints, its data is older -/
def Qn (B : Nat) (W0 w : World) (u : Value) (nd : Nd) : Prop :=
  ∃ sa sc da dc, u = .agg #[.string nd.op, .int .i64 nd.a, .int .i64 nd.b, .string nd.name, .slice sa nd.shape.length sc, .string nd.k, .int .i64 nd.n, .slice da nd.data.length dc] ∧ Sp.Sl w sa nd.shape ∧ Pe B w sa nd.shape ∧ Row W0 da (txts nd.data)
theorem Qn.kq {B : Nat} {W0 w v : World} {u : Value} {nd : Nd} (h : Qn B W0 w u nd) (hk : Kq B w v) : Qn B W0 v u nd := by
  obtain ⟨sa, sc, da, dc, e, h1, h2, h3⟩ := h
  exact ⟨sa, sc, da, dc, e, sl_kq h1 h2 hk, h2.kq hk, h3⟩
theorem Qn.len {B : Nat} {W0 w : World} {u : Value} {nd : Nd} (h : Qn B W0 w u nd) : (ncs u).length = 8 := by
  obtain ⟨sa, sc, da, dc, rfl, _⟩ := h
  rfl
/-- nodes, by value -/
def Lq (B : Nat) (W0 w : World) (us : List Value) (l : List Nd) : Prop := us.length = l.length ∧ ∀ i u, us[i]? = some u → Qn B W0 w u (l.getD i zn)
theorem Lq.kq {B : Nat} {W0 w v : World} {us : List Value} {l : List Nd} (h : Lq B W0 w us l) (hk : Kq B w v) : Lq B W0 v us l := ⟨h.1, fun i u hu => (h.2 i u hu).kq hk⟩
theorem Lq.snoc {B : Nat} {W0 w : World} {us : List Value} {l : List Nd} {u : Value} {nd : Nd} (h : Lq B W0 w us l) (hu : Qn B W0 w u nd) : Lq B W0 w (us ++ [u]) (l ++ [nd]) := by
  refine ⟨by simp [h.1], fun i x hx => ?_⟩
  by_cases hi : i < us.length
  · rw [List.getElem?_append_left hi] at hx
    have := h.2 i x hx
    rwa [List.getD_eq_getElem?_getD, List.getElem?_append_left (by rw [← h.1]; exact hi), ← List.getD_eq_getElem?_getD]
  · have hl : i < us.length + 1 := by have := (List.getElem?_eq_some_iff.1 hx).1; simpa using this
    have e : i = us.length := by omega
    subst e
    rw [List.getElem?_append_right (Nat.le_refl _)] at hx
    simp at hx
    subst hx
    rw [List.getD_eq_getElem?_getD, h.1, List.getElem?_append_right (Nat.le_refl _)]
    simpa using hu
theorem nflat8 : ∀ {us : List Value}, (∀ u ∈ us, (ncs u).length = 8) → ∀ {i : Nat} {u : Value}, us[i]? = some u → ∀ j, j < 8 → (nflat us)[i * 8 + j]? = (ncs u)[j]?
  | [], _, i, u, hu, j, hj => by simp at hu
  | y :: us, h, 0, u, hu, j, hj => by
    simp at hu; subst hu
    have e : nflat (y :: us) = ncs y ++ nflat us := by simp [nflat]
    have hl := h y (by simp)
    rw [e, Nat.zero_mul, Nat.zero_add, List.getElem?_append_left (by omega)]
  | y :: us, h, i + 1, u, hu, j, hj => by
    have e : nflat (y :: us) = ncs y ++ nflat us := by simp [nflat]
    have hl := h y (by simp)
    rw [e, List.getElem?_append_right (by omega), hl, show (i + 1) * 8 + j - 8 = i * 8 + j by omega]
    exact nflat8 (fun u hu => h u (List.mem_cons_of_mem _ hu)) (by simpa using hu) j hj
theorem Lq.all8 {B : Nat} {W0 w : World} {us : List Value} {l : List Nd} (h : Lq B W0 w us l) : ∀ u ∈ us, (ncs u).length = 8 := fun u hu => by
  obtain ⟨i, hi⟩ := List.mem_iff_getElem?.1 hu
  exact (h.2 i u hi).len
/-- one node's cells in a row of one's own -/
theorem Lq.cells {B e n cap : Nat} {W0 w : World} {ao : Option Addr} {us : List Value} {l : List Nd} (h : Lq B W0 w us l) (ho : w.ownsRow B e 8 (.slice ao n cap) n (nflat us)) (hn : n = l.length) {i : Nat} (hi : i < l.length) :
    ∃ g u, ao = some ⟨g, 0, none⟩ ∧ Qn B W0 w u (l.getD i zn) ∧ ∀ j, j < 8 → w.cell? ⟨g, i * 8 + j, none⟩ = (ncs u)[j]? := by
  obtain ⟨u, hu⟩ : ∃ u, us[i]? = some u := ⟨us[i]'(by rw [h.1]; exact hi), by rw [List.getElem?_eq_getElem]⟩
  rcases ho.2 with ⟨h1, h2⟩ | ⟨g, c, cur, h1, h2, h3, h4, h5, _⟩
  · omega
  · simp only [Value.slice.injEq] at h1
    obtain ⟨rfl, -, rfl⟩ := h1
    refine ⟨g, u, rfl, h.2 i u hu, fun j hj => ?_⟩
    rw [ho.cellAt (i * 8 + j) (by omega)]
    exact nflat8 h.all8 hu j hj
/-- as they are read, behind the entry's world -/
theorem Lq.nl {B e n cap : Nat} {W0 w : World} {ao : Option Addr} {us : List Value} {l : List Nd} (h : Lq B W0 w us l) (ho : w.ownsRow B e 8 (.slice ao n cap) n (nflat us)) (hn : n = l.length) (hw : Below W0.heap.size W0 w) : Nl w ao l := by
  intro i hi
  obtain ⟨g, u, rfl, ⟨sa, sc, da, dc, rfl, h1, h2, h3⟩, hc⟩ := h.cells ho hn hi
  refine ⟨g, 0, ncl (l.getD i zn) sa sc da dc, rfl, ⟨sa, sc, da, dc, rfl, h1, Row.below h3 hw⟩, fun j hj => ?_⟩
  rw [Nat.zero_add, hc j hj]
  rfl
/-- what the document's Build has built: R the place of what is answered, R + 1 the graph's -/
structure Dd (w W0 : World) (R : Nat) (v nw : Value) (us : List Value) (σ : St) : Prop where
  hR : W0.heap.size = R
  low : Below R W0 w
  zero : w.heap[R]? = some (.cells #[.slice none 0 0, .int .i64 0] 24 (0, 0))
  box : w.heap[R + 1]? = some (.cells #[v, .int .i64 σ.loss] 24 (0, 0))
  nodes : w.ownsRow R 28 8 v σ.l.length (nflat us)
  all : Lq R W0 w us σ.l
  names : w.ownsRow R 9 1 nw σ.ns.length (txts σ.ns)
section
variable {w w' W0 : World} {R : Nat} {v nw : Value} {us : List Value} {σ : St}
theorem kd_below {v v' : World} (hb : Below v.heap.size v v') {k : Nat} {o : Obj} (h : v.heap[k]? = some o) : v'.heap[k]? = some o := by
  rw [hb.block k (Array.getElem?_eq_some_iff.1 h).1]; exact h
theorem Dd.low' (h : Dd w W0 R v nw us σ) : Below W0.heap.size W0 w := by rw [h.hR]; exact h.low
theorem Dd.lt (h : Dd w W0 R v nw us σ) : R + 1 < w.heap.size := (Array.getElem?_eq_some_iff.1 h.box).1
theorem Dd.below (h : Dd w W0 R v nw us σ) (hb : Below w.heap.size w w') : Dd w' W0 R v nw us σ :=
  ⟨h.hR, h.low.trans (hb.mono (by have := h.lt; omega)), kd_below hb h.zero, kd_below hb h.box, Lx.own_below h.nodes hb, h.all.kq (Kq.of hb), Lx.own_below h.names hb⟩
theorem Dd.lossed (h : Dd w W0 R v nw us σ) (k : Int) : Dd (w.setCell ⟨R + 1, 1, none⟩ (.int .i64 k)) W0 R v nw us { σ with loss := k } :=
  ⟨h.hR, h.low.setCell (by show R ≤ R + 1; omega) _, by rw [heap_setCell_other _ _ _ _ (by show R ≠ R + 1; omega)]; exact h.zero, heap_setCell_same w (R + 1) 1 _ 24 _ h.box,
    h.nodes.kept (grown_cell w _ _) (own_off h.nodes h.box (fun c e => by cases e)), h.all.kq (Kq.set h.box (fun c e => by cases e) (by omega) _), h.names.kept (grown_cell w _ _) (own_off h.names h.box (fun c e => by cases e))⟩
/-- a block of another kind, behind a row that has grown -/
theorem grown_other {B e s n D : Nat} {x : Value} {xs : List Value} {o : Obj} (ho : w.ownsRow B e s x n xs) (hg : w.grownBy w' x.ownBlock) (hD : w.heap[D]? = some o) (h : ∀ c, o ≠ .cells c e (0, 0)) : w'.heap[D]? = some o := by
  rw [hg.block D (Array.getElem?_eq_some_iff.1 hD).1 (fun c => by
    rcases own_off ho hD h with h1 | h1
    · rw [h1] at c; cases c
    · exact h1 c.symm)]
  exact hD
theorem Dd.named (h : Dd w W0 R v nw us σ) {nw' : Value} {x : ByteArray} (ho : w'.ownsRow R 9 1 nw' (σ.ns.length + 1) (txts σ.ns ++ [.string x])) (hg : w.grownBy w' nw.ownBlock) : Dd w' W0 R v nw' us { σ with ns := σ.ns ++ [x] } :=
  ⟨h.hR, h.low.grown hg (by have := h.lt; omega) (fun k hk => (h.names.lt k hk).1), grown_other h.names hg h.zero (fun c e => by cases e), grown_other h.names hg h.box (fun c e => by cases e), Lx.own_grown h.nodes h.names (by decide) hg, h.all.kq (Kq.grown h.names (by decide) hg), by
    have e : txts (σ.ns ++ [x]) = txts σ.ns ++ [.string x] := by simp [txts]
    show w'.ownsRow R 9 1 nw' (σ.ns ++ [x]).length (txts (σ.ns ++ [x]))
    rw [e, List.length_append]
    exact ho⟩
theorem Dd.noded (h : Dd w W0 R v nw us σ) {v' u : Value} {nd : Nd} (hu : Qn R W0 w u nd) (ho : w'.ownsRow R 28 8 v' (σ.l.length + 1) (nflat us ++ ncs u)) (hg : w.grownBy w' v.ownBlock) : Dd (w'.setCell ⟨R + 1, 0, none⟩ v') W0 R v' nw (us ++ [u]) { σ with l := σ.l ++ [nd] } := by
  have hb := grown_other h.nodes hg h.box (fun c e => by cases e)
  have hz := grown_other h.nodes hg h.zero (fun c e => by cases e)
  have hn := Lx.own_grown h.names h.nodes (by decide) hg
  have hk := (Kq.grown h.nodes (by decide) hg).trans (Kq.set hb (fun c e => by cases e) (Nat.le_succ R) (k := 0) v')
  refine ⟨h.hR, (h.low.grown hg (by have := h.lt; omega) (fun k hk => (h.nodes.lt k hk).1)).setCell (by show R ≤ R + 1; omega) _, ?_, heap_setCell_same w' (R + 1) 0 _ 24 _ hb, ?_, (h.all.kq hk).snoc (hu.kq hk), hn.kept (grown_cell w' _ _) (own_off hn hb (fun c e => by cases e))⟩
  · rw [heap_setCell_other _ _ _ _ (by show R ≠ R + 1; omega)]; exact hz
  · have e : nflat (us ++ [u]) = nflat us ++ ncs u := by rw [nflat_app]; simp [nflat]
    show World.ownsRow _ R 28 8 v' (σ.l ++ [nd]).length (nflat (us ++ [u]))
    rw [e, List.length_append]
    exact ho.kept (grown_cell w' _ _) (own_off ho hb (fun c e => by cases e))
theorem Dd.c0 (h : Dd w W0 R v nw us σ) : w.cell? ⟨R + 1, 0, none⟩ = some v := by simp [World.cell?, h.box]
theorem Dd.c1 (h : Dd w W0 R v nw us σ) : w.cell? ⟨R + 1, 1, none⟩ = some (.int .i64 σ.loss) := by simp [World.cell?, h.box]
theorem Dd.fz (h : Dd w W0 R v nw us σ) (i : Nat) : w.frozen? ⟨R + 1, i, none⟩ = false := by simp [World.frozen?, h.box]
theorem Dd.z0 (h : Dd w W0 R v nw us σ) : w.cell? ⟨R, 0, none⟩ = some (.slice none 0 0) := by simp [World.cell?, h.zero]
theorem Dd.z1 (h : Dd w W0 R v nw us σ) : w.cell? ⟨R, 1, none⟩ = some (.int .i64 0) := by simp [World.cell?, h.zero]
theorem Dd.zf (h : Dd w W0 R v nw us σ) (i : Nat) : w.frozen? ⟨R, i, none⟩ = false := by simp [World.frozen?, h.zero]
theorem pe_old {a : Option Addr} {s : List Int} (h : Sp.Sl W0 a s) (hR : W0.heap.size = R) (hl : R ≤ w.heap.size) : Pe R w a s := by
  match s, h with
  | [], h => exact .inl rfl
  | z :: s, h =>
    right
    intro x hx
    obtain ⟨b, off, e, hc⟩ := h 0 (by simp)
    rw [e] at hx
    cases hx
    have : b < W0.heap.size := row_lt hc
    exact ⟨by show b < _; omega, .inl (by show b < _; omega)⟩
theorem Dd.shape {a : Option Addr} {c : Nat} (h : Dd w W0 R (.slice a σ.l.length c) nw us σ) (nd : Nd) (sa da : Option Addr) (sc dc : Nat) (hS : Sp.Sl W0 sa nd.shape) (hD : Row W0 da (txts nd.data)) (hb : Nb nd) (hls : ∀ i, i < σ.l.length → (σ.l.getD i zn).shape.length ≤ 1000) :
    Calls Tryz.prog 11 #[.slice a σ.l.length c, nv nd sa sc da dc] w fun e w' => Shq R w' (shp σ.l nd) e ∧ Below w.heap.size w w' := by
  refine refShape_src R σ.l nd sc dc c sa da a w (h.all.nl h.nodes rfl h.low') (sl_below hS h.low') (pe_old hS h.hR (by have := h.lt; omega)) ?_ (Row.below hD h.low') hb hls
  intro i bl ol aa ac hi e hc
  obtain ⟨g, u, e2, ⟨sa', sc', da', dc', rfl, h1, h2, h3⟩, hcs⟩ := h.all.cells h.nodes rfl hi
  rw [e2] at e
  cases e
  have := hcs 4 (by omega)
  rw [Nat.zero_add, this] at hc
  have e4 : (Value.slice sa' (σ.l.getD i zn).shape.length sc') = .slice aa (σ.l.getD i zn).shape.length ac := by simpa [ncs] using hc
  cases e4
  exact h2
theorem Dd.form (h : Dd w W0 R v nw us σ) : ∃ a c b d, v = .slice a σ.l.length c ∧ nw = .slice b σ.ns.length d ∧ σ.l.length ≤ c ∧ c ≤ maxLen := by
  obtain ⟨b, d, e⟩ := own_slice1 h.names
  rcases h.nodes.2 with ⟨h1, h2⟩ | ⟨g, c, cur, h1, h2, h3, h4, h5, _⟩
  · exact ⟨none, 0, b, d, by rw [h1, h2], e, by omega, by unfold maxLen; omega⟩
  · exact ⟨some ⟨g, 0, none⟩, c, b, d, h1, e, h4, h5⟩
end
end Go.Proofs.YtadgnafafdfioaaGreatDoor.Gr
