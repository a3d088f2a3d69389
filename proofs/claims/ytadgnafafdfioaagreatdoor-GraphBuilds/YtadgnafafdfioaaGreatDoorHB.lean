/-
  THE DOCUMENT's find; WHAT ITS Build HAS BUILT, in memory. Conditions: each theorem's own.
-/
import Derived.Test.YtadgnafafdfioaaGreatDoorGZ
import Derived.Test.YtadgnafafdfioaaGreatDoorBB
import Derived.Deep.Cut
import Derived.Test.YtadgnafafdfioaaGreatDoorGX
import Derived.Test.YtadgnafafdfioaaGreatDoorGR
import Derived.Test.YtadgnafafdfioaaGreatDoorSb
namespace Go.Proofs.YtadgnafafdfioaaGreatDoor.Gr
open Go.Proofs.YtadgnafafdfioaaGreatDoor.Rd
set_option maxRecDepth 100000
open Go.RowKit
set_option linter.unusedVariables false
set_option linter.unusedSimpArgs false

/-- the place of a name; -1: it is not there -/
def fni (ns : List ByteArray) (x : ByteArray) : Int := match fnd ns x with | some k => (k : Int) | none => -1
theorem fnd_first : ∀ {ns : List ByteArray} {x : ByteArray} {k : Nat}, k < ns.length → (∀ j, j < k → ns.getD j em ≠ x) → ns.getD k em = x → fnd ns x = some k
  | y :: ns, x, 0, _, _, h => by
    unfold fnd
    have e : y = x := h
    rw [if_pos e]
  | y :: ns, x, k + 1, hk, hj, h => by
    unfold fnd
    have h0 : ¬ y = x := hj 0 (by omega)
    rw [if_neg h0, fnd_first (k := k) (by simpa using hk) (fun j hj' => by simpa using hj (j + 1) (by omega)) (by simpa using h)]
    rfl
theorem fnd_nowhere {ns : List ByteArray} {x : ByteArray} (h : ∀ j, j < ns.length → ns.getD j em ≠ x) : fnd ns x = none := by
  rw [fnd_none]
  intro hm
  obtain ⟨j, hj, e⟩ := List.getElem_of_mem hm
  exact h j hj (by simp [List.getD, hj, e])
theorem refFind_any (ns : List ByteArray) (ao : Option Addr) (c : Nat) (v : ByteArray) (w : World) (hl : ns.length ≤ 1000000) (hR : Row w ao (txts ns)) :
    Calls Tryz.prog 32 #[.slice ao ns.length c, .string v] w fun e w' => e = .returned (.int .i64 (fni ns v)) ∧ w' = w := by
  have HR : Hid _ := fun i (h : i < ns.length) => row_s hR h
  clear hR
  have HY : Hid (∀ k, k < ns.length → (∀ j, j < k → ns.getD j em ≠ v) → ns.getD k em = v → fni ns v = (k : Int)) := fun k hk hj h => by unfold fni; rw [fnd_first hk hj h]
  have HN : Hid ((∀ j, j < ns.length → ns.getD j em ≠ v) → fni ns v = -1) := fun h => by unfold fni; rw [fnd_nowhere h]
  obtain ⟨R, hR⟩ : ∃ R, fni ns v = R := ⟨_, rfl⟩
  rw [hR] at HY HN ⊢
  clear hR
  obtain ⟨n, hn⟩ : ∃ n, ns.length = n := ⟨_, rfl⟩
  rw [hn] at HR HY HN hl ⊢
  clear hn
  go_enter Tryz.func32, Tryz.ntmps32
  go_wp2_with fail
  go_loop [5] (fun i => ∃ k : Nat, k ≤ n ∧ i = .int .i64 (k : Int) ∧ (∀ j, j < k → ns.getD j em ≠ v)) (fun i => n - (intOf i).toNat)
  case atStart => exact ⟨0, by omega, rfl, fun j hj => by omega⟩
  case round =>
    obtain ⟨k, hk, rfl, hj⟩ := hrel
    have HJ : Hid _ := hj
    clear hj
    by_cases h : k < n
    · obtain ⟨b, off, rfl, hc⟩ := HR.out k h
      obtain ⟨x, hx⟩ : ∃ z, ns.getD k em = z := ⟨_, rfl⟩
      rw [hx] at hc
      have HX : Hid _ := hx
      clear hx
      by_cases he : x = v
      · have HE : Hid (R = (k : Int)) := HY.out k h HJ.out (HX.out.trans he)
        have hb : (x.toList == v.toList) = true := by rw [he]; exact beq_self_eq_true _
        clear he
        go_wp2
        go_ret
        exact ⟨by rw [HE.out]; rfl, rfl⟩
      · have hb : (x.toList == v.toList) = false := list_ne he
        have HE : Hid _ := he
        clear he
        go_wp2
        go_round
        case rel =>
          refine ⟨k + 1, by omega, by go_num, fun j hj => ?_⟩
          by_cases e : j = k
          · rw [e, HX.out]; exact HE.out
          · exact HJ.out j (by omega)
        case measure => simp [intOf]; omega
    · obtain rfl : k = n := by omega
      have HE : Hid (R = -1) := HN.out HJ.out
      go_wp2
      go_ret
      exact ⟨by rw [HE.out]; rfl, rfl⟩

/-- one store, as growth of its block alone -/
theorem grown_cell (w : World) (p : Addr) (x : Value) : w.grownBy (w.setCell p x) (some p.block) := ⟨rfl, rfl, rfl, by simp, fun k _ hk => heap_setCell_other w p k x (fun e => hk (by simp [e]))⟩
/-- what is below a number, or a block of ints, stands -/
def Kq (B : Nat) (w v : World) : Prop := w.heap.size ≤ v.heap.size ∧ ∀ b, b < w.heap.size → (b < B ∨ ∃ c, w.heap[b]? = some (.cells c 3 (0, 0))) → v.heap[b]? = w.heap[b]?
theorem Kq.of {B : Nat} {w v : World} (h : Below w.heap.size w v) : Kq B w v := ⟨h.size, fun b hb _ => h.block b hb⟩
theorem Kq.trans {B : Nat} {w v u : World} (h1 : Kq B w v) (h2 : Kq B v u) : Kq B w u := ⟨Nat.le_trans h1.1 h2.1, fun b hb h => by
  have e := h1.2 b hb h
  rw [h2.2 b (Nat.lt_of_lt_of_le hb h1.1) (h.imp id fun ⟨c, hc⟩ => ⟨c, by rw [e]; exact hc⟩), e]⟩
theorem Kq.grown {B e s n : Nat} {w v : World} {x : Value} {xs : List Value} (ho : w.ownsRow B e s x n xs) (he : e ≠ 3) (hg : w.grownBy v x.ownBlock) : Kq B w v := ⟨hg.size, fun b hb h => by
  refine hg.block b hb fun c => ?_
  rcases h with h | ⟨d, hd⟩
  · have := (ho.lt b c.symm).1; omega
  · rcases own_off ho hd (fun c2 e2 => by cases e2; exact he rfl) with h1 | h1
    · rw [h1] at c; cases c
    · exact h1 c.symm⟩
theorem Kq.set {B D k : Nat} {w : World} {o : Obj} (hD : w.heap[D]? = some o) (h3 : ∀ c, o ≠ .cells c 3 (0, 0)) (hB : B ≤ D) (x : Value) : Kq B w (w.setCell ⟨D, k, none⟩ x) := by
  refine ⟨by simp, fun b hb h => heap_setCell_other _ _ _ _ (fun e => ?_)⟩
  have e' : b = D := e
  subst e'
  rcases h with h | ⟨c, hc⟩
  · omega
  · rw [hD] at hc
    cases hc
    exact h3 _ rfl
theorem Pz.kq {B : Nat} {w v : World} {a : Option Addr} (h : Pz B w a) (hk : Kq B w v) : Pz B v a := fun x hx => by
  obtain ⟨h1, h2⟩ := h x hx
  exact ⟨Nat.lt_of_lt_of_le h1 hk.1, h2.imp id fun ⟨c, hc⟩ => ⟨c, by rw [hk.2 _ h1 (.inr ⟨c, hc⟩)]; exact hc⟩⟩
theorem Pe.kq {B : Nat} {w v : World} {a : Option Addr} {s : List Int} (h : Pe B w a s) (hk : Kq B w v) : Pe B v a s := h.imp id fun h => h.kq hk
theorem sl_kq {B : Nat} {w v : World} {a : Option Addr} {s : List Int} (hs : Sp.Sl w a s) (h : Pe B w a s) (hk : Kq B w v) : Sp.Sl v a s := by
  rcases h with rfl | h
  · exact Sp.Sl.nil _ _
  · intro i hi
    obtain ⟨b, off, e, hc⟩ := hs i hi
    obtain ⟨h1, h2⟩ := h _ e
    refine ⟨b, off, e, ?_⟩
    have := hk.2 b h1 h2
    rw [World.cell?_of_block (a := ⟨b, off + i, none⟩) this]
    exact hc
/-- a node, by value: its shape lies below or among ints, its data is older -/
def Qn (B : Nat) (W0 w : World) (u : Value) (nd : Nd) : Prop :=
  ∃ sa sc da dc, u = .agg #[.string nd.op, .int .i64 nd.a, .int .i64 nd.b, .string nd.name, .slice sa nd.shape.length sc, .string nd.k, .int .i64 nd.n, .slice da nd.data.length dc] ∧ Sp.Sl w sa nd.shape ∧ Pe B w sa nd.shape ∧ Row W0 da (txts nd.data)
theorem Qn.kq {B : Nat} {W0 w v : World} {u : Value} {nd : Nd} (h : Qn B W0 w u nd) (hk : Kq B w v) : Qn B W0 v u nd := by
  obtain ⟨sa, sc, da, dc, e, h1, h2, h3⟩ := h
  exact ⟨sa, sc, da, dc, e, sl_kq h1 h2 hk, h2.kq hk, h3⟩
theorem Qn.len {B : Nat} {W0 w : World} {u : Value} {nd : Nd} (h : Qn B W0 w u nd) : (ncs u).length = 8 := by
  obtain ⟨sa, sc, da, dc, rfl, _⟩ := h
  rfl
/-- nodes, by value -/
def Lq (B : Nat) (W0 w : World) (us : List Value) (l : List Nd) : Prop := us.length = l.length ∧ ∀ i u, us[i]? = some u → Qn B W0 w u (l.getD i zn)
theorem Lq.kq {B : Nat} {W0 w v : World} {us : List Value} {l : List Nd} (h : Lq B W0 w us l) (hk : Kq B w v) : Lq B W0 v us l := ⟨h.1, fun i u hu => (h.2 i u hu).kq hk⟩
theorem Lq.snoc {B : Nat} {W0 w : World} {us : List Value} {l : List Nd} {u : Value} {nd : Nd} (h : Lq B W0 w us l) (hu : Qn B W0 w u nd) : Lq B W0 w (us ++ [u]) (l ++ [nd]) := by
  refine ⟨by simp [h.1], fun i x hx => ?_⟩
  by_cases hi : i < us.length
  · rw [List.getElem?_append_left hi] at hx
    have := h.2 i x hx
    rwa [List.getD_eq_getElem?_getD, List.getElem?_append_left (by rw [← h.1]; exact hi), ← List.getD_eq_getElem?_getD]
  · have hl : i < us.length + 1 := by have := (List.getElem?_eq_some_iff.1 hx).1; simpa using this
    have e : i = us.length := by omega
    subst e
    rw [List.getElem?_append_right (Nat.le_refl _)] at hx
    simp at hx
    subst hx
    rw [List.getD_eq_getElem?_getD, h.1, List.getElem?_append_right (Nat.le_refl _)]
    simpa using hu
theorem nflat8 : ∀ {us : List Value}, (∀ u ∈ us, (ncs u).length = 8) → ∀ {i : Nat} {u : Value}, us[i]? = some u → ∀ j, j < 8 → (nflat us)[i * 8 + j]? = (ncs u)[j]?
  | [], _, i, u, hu, j, hj => by simp at hu
  | y :: us, h, 0, u, hu, j, hj => by
    simp at hu; subst hu
    have e : nflat (y :: us) = ncs y ++ nflat us := by simp [nflat]
    have hl := h y (by simp)
    rw [e, Nat.zero_mul, Nat.zero_add, List.getElem?_append_left (by omega)]
  | y :: us, h, i + 1, u, hu, j, hj => by
    have e : nflat (y :: us) = ncs y ++ nflat us := by simp [nflat]
    have hl := h y (by simp)
    rw [e, List.getElem?_append_right (by omega), hl, show (i + 1) * 8 + j - 8 = i * 8 + j by omega]
    exact nflat8 (fun u hu => h u (List.mem_cons_of_mem _ hu)) (by simpa using hu) j hj
theorem Lq.all8 {B : Nat} {W0 w : World} {us : List Value} {l : List Nd} (h : Lq B W0 w us l) : ∀ u ∈ us, (ncs u).length = 8 := fun u hu => by
  obtain ⟨i, hi⟩ := List.mem_iff_getElem?.1 hu
  exact (h.2 i u hi).len
/-- one node's cells in a row of one's own -/
theorem Lq.cells {B e n cap : Nat} {W0 w : World} {ao : Option Addr} {us : List Value} {l : List Nd} (h : Lq B W0 w us l) (ho : w.ownsRow B e 8 (.slice ao n cap) n (nflat us)) (hn : n = l.length) {i : Nat} (hi : i < l.length) :
    ∃ g u, ao = some ⟨g, 0, none⟩ ∧ Qn B W0 w u (l.getD i zn) ∧ ∀ j, j < 8 → w.cell? ⟨g, i * 8 + j, none⟩ = (ncs u)[j]? := by
  obtain ⟨u, hu⟩ : ∃ u, us[i]? = some u := ⟨us[i]'(by rw [h.1]; exact hi), by rw [List.getElem?_eq_getElem]⟩
  rcases ho.2 with ⟨h1, h2⟩ | ⟨g, c, cur, h1, h2, h3, h4, h5, _⟩
  · omega
  · simp only [Value.slice.injEq] at h1
    obtain ⟨rfl, -, rfl⟩ := h1
    refine ⟨g, u, rfl, h.2 i u hu, fun j hj => ?_⟩
    rw [ho.cellAt (i * 8 + j) (by omega)]
    exact nflat8 h.all8 hu j hj
/-- as they are read, behind the entry's world -/
theorem Lq.nl {B e n cap : Nat} {W0 w : World} {ao : Option Addr} {us : List Value} {l : List Nd} (h : Lq B W0 w us l) (ho : w.ownsRow B e 8 (.slice ao n cap) n (nflat us)) (hn : n = l.length) (hw : Below W0.heap.size W0 w) : Nl w ao l := by
  intro i hi
  obtain ⟨g, u, rfl, ⟨sa, sc, da, dc, rfl, h1, h2, h3⟩, hc⟩ := h.cells ho hn hi
  refine ⟨g, 0, ncl (l.getD i zn) sa sc da dc, rfl, ⟨sa, sc, da, dc, rfl, h1, Row.below h3 hw⟩, fun j hj => ?_⟩
  rw [Nat.zero_add, hc j hj]
  rfl
/-- what the document's Build has built: R the place of what is answered, R + 1 the graph's -/
structure Dd (w W0 : World) (R : Nat) (v nw : Value) (us : List Value) (σ : St) : Prop where
  hR : W0.heap.size = R
  low : Below R W0 w
  zero : w.heap[R]? = some (.cells #[.slice none 0 0, .int .i64 0] 24 (0, 0))
  box : w.heap[R + 1]? = some (.cells #[v, .int .i64 σ.loss] 24 (0, 0))
  nodes : w.ownsRow R 28 8 v σ.l.length (nflat us)
  all : Lq R W0 w us σ.l
  names : w.ownsRow R 9 1 nw σ.ns.length (txts σ.ns)
section
variable {w w' W0 : World} {R : Nat} {v nw : Value} {us : List Value} {σ : St}
theorem kd_below {v v' : World} (hb : Below v.heap.size v v') {k : Nat} {o : Obj} (h : v.heap[k]? = some o) : v'.heap[k]? = some o := by
  rw [hb.block k (Array.getElem?_eq_some_iff.1 h).1]; exact h
theorem Dd.low' (h : Dd w W0 R v nw us σ) : Below W0.heap.size W0 w := by rw [h.hR]; exact h.low
theorem Dd.lt (h : Dd w W0 R v nw us σ) : R + 1 < w.heap.size := (Array.getElem?_eq_some_iff.1 h.box).1
theorem Dd.below (h : Dd w W0 R v nw us σ) (hb : Below w.heap.size w w') : Dd w' W0 R v nw us σ :=
  ⟨h.hR, h.low.trans (hb.mono (by have := h.lt; omega)), kd_below hb h.zero, kd_below hb h.box, Lx.own_below h.nodes hb, h.all.kq (Kq.of hb), Lx.own_below h.names hb⟩
theorem Dd.lossed (h : Dd w W0 R v nw us σ) (k : Int) : Dd (w.setCell ⟨R + 1, 1, none⟩ (.int .i64 k)) W0 R v nw us { σ with loss := k } :=
  ⟨h.hR, h.low.setCell (by show R ≤ R + 1; omega) _, by rw [heap_setCell_other _ _ _ _ (by show R ≠ R + 1; omega)]; exact h.zero, heap_setCell_same w (R + 1) 1 _ 24 _ h.box,
    h.nodes.kept (grown_cell w _ _) (own_off h.nodes h.box (fun c e => by cases e)), h.all.kq (Kq.set h.box (fun c e => by cases e) (by omega) _), h.names.kept (grown_cell w _ _) (own_off h.names h.box (fun c e => by cases e))⟩
/-- a block of another kind, behind a row that has grown -/
theorem grown_other {B e s n D : Nat} {x : Value} {xs : List Value} {o : Obj} (ho : w.ownsRow B e s x n xs) (hg : w.grownBy w' x.ownBlock) (hD : w.heap[D]? = some o) (h : ∀ c, o ≠ .cells c e (0, 0)) : w'.heap[D]? = some o := by
  rw [hg.block D (Array.getElem?_eq_some_iff.1 hD).1 (fun c => by
    rcases own_off ho hD h with h1 | h1
    · rw [h1] at c; cases c
    · exact h1 c.symm)]
  exact hD
theorem Dd.named (h : Dd w W0 R v nw us σ) {nw' : Value} {x : ByteArray} (ho : w'.ownsRow R 9 1 nw' (σ.ns.length + 1) (txts σ.ns ++ [.string x])) (hg : w.grownBy w' nw.ownBlock) : Dd w' W0 R v nw' us { σ with ns := σ.ns ++ [x] } :=
  ⟨h.hR, h.low.grown hg (by have := h.lt; omega) (fun k hk => (h.names.lt k hk).1), grown_other h.names hg h.zero (fun c e => by cases e), grown_other h.names hg h.box (fun c e => by cases e), Lx.own_grown h.nodes h.names (by decide) hg, h.all.kq (Kq.grown h.names (by decide) hg), by
    have e : txts (σ.ns ++ [x]) = txts σ.ns ++ [.string x] := by simp [txts]
    show w'.ownsRow R 9 1 nw' (σ.ns ++ [x]).length (txts (σ.ns ++ [x]))
    rw [e, List.length_append]
    exact ho⟩
theorem Dd.noded (h : Dd w W0 R v nw us σ) {v' u : Value} {nd : Nd} (hu : Qn R W0 w u nd) (ho : w'.ownsRow R 28 8 v' (σ.l.length + 1) (nflat us ++ ncs u)) (hg : w.grownBy w' v.ownBlock) : Dd (w'.setCell ⟨R + 1, 0, none⟩ v') W0 R v' nw (us ++ [u]) { σ with l := σ.l ++ [nd] } := by
  have hb := grown_other h.nodes hg h.box (fun c e => by cases e)
  have hz := grown_other h.nodes hg h.zero (fun c e => by cases e)
  have hn := Lx.own_grown h.names h.nodes (by decide) hg
  have hk := (Kq.grown h.nodes (by decide) hg).trans (Kq.set hb (fun c e => by cases e) (Nat.le_succ R) (k := 0) v')
  refine ⟨h.hR, (h.low.grown hg (by have := h.lt; omega) (fun k hk => (h.nodes.lt k hk).1)).setCell (by show R ≤ R + 1; omega) _, ?_, heap_setCell_same w' (R + 1) 0 _ 24 _ hb, ?_, (h.all.kq hk).snoc (hu.kq hk), hn.kept (grown_cell w' _ _) (own_off hn hb (fun c e => by cases e))⟩
  · rw [heap_setCell_other _ _ _ _ (by show R ≠ R + 1; omega)]; exact hz
  · have e : nflat (us ++ [u]) = nflat us ++ ncs u := by rw [nflat_app]; simp [nflat]
    show World.ownsRow _ R 28 8 v' (σ.l ++ [nd]).length (nflat (us ++ [u]))
    rw [e, List.length_append]
    exact ho.kept (grown_cell w' _ _) (own_off ho hb (fun c e => by cases e))
theorem Dd.c0 (h : Dd w W0 R v nw us σ) : w.cell? ⟨R + 1, 0, none⟩ = some v := by simp [World.cell?, h.box]
theorem Dd.c1 (h : Dd w W0 R v nw us σ) : w.cell? ⟨R + 1, 1, none⟩ = some (.int .i64 σ.loss) := by simp [World.cell?, h.box]
theorem Dd.fz (h : Dd w W0 R v nw us σ) (i : Nat) : w.frozen? ⟨R + 1, i, none⟩ = false := by simp [World.frozen?, h.box]
theorem Dd.z0 (h : Dd w W0 R v nw us σ) : w.cell? ⟨R, 0, none⟩ = some (.slice none 0 0) := by simp [World.cell?, h.zero]
theorem Dd.z1 (h : Dd w W0 R v nw us σ) : w.cell? ⟨R, 1, none⟩ = some (.int .i64 0) := by simp [World.cell?, h.zero]
theorem Dd.zf (h : Dd w W0 R v nw us σ) (i : Nat) : w.frozen? ⟨R, i, none⟩ = false := by simp [World.frozen?, h.zero]
theorem pe_old {a : Option Addr} {s : List Int} (h : Sp.Sl W0 a s) (hR : W0.heap.size = R) (hl : R ≤ w.heap.size) : Pe R w a s := by
  match s, h with
  | [], h => exact .inl rfl
  | z :: s, h =>
    right
    intro x hx
    obtain ⟨b, off, e, hc⟩ := h 0 (by simp)
    rw [e] at hx
    cases hx
    have : b < W0.heap.size := row_lt hc
    exact ⟨by show b < _; omega, .inl (by show b < _; omega)⟩
theorem Dd.shape {a : Option Addr} {c : Nat} (h : Dd w W0 R (.slice a σ.l.length c) nw us σ) (nd : Nd) (sa da : Option Addr) (sc dc : Nat) (hS : Sp.Sl W0 sa nd.shape) (hD : Row W0 da (txts nd.data)) (hb : Nb nd) (hls : ∀ i, i < σ.l.length → (σ.l.getD i zn).shape.length ≤ 1000) :
    Calls Tryz.prog 11 #[.slice a σ.l.length c, nv nd sa sc da dc] w fun e w' => Shq R w' (shp σ.l nd) e ∧ Below w.heap.size w w' := by
  refine refShape_src R σ.l nd sc dc c sa da a w (h.all.nl h.nodes rfl h.low') (sl_below hS h.low') (pe_old hS h.hR (by have := h.lt; omega)) ?_ (Row.below hD h.low') hb hls
  intro i bl ol aa ac hi e hc
  obtain ⟨g, u, e2, ⟨sa', sc', da', dc', rfl, h1, h2, h3⟩, hcs⟩ := h.all.cells h.nodes rfl hi
  rw [e2] at e
  cases e
  have := hcs 4 (by omega)
  rw [Nat.zero_add, this] at hc
  have e4 : (Value.slice sa' (σ.l.getD i zn).shape.length sc') = .slice aa (σ.l.getD i zn).shape.length ac := by simpa [ncs] using hc
  cases e4
  exact h2
theorem Dd.form (h : Dd w W0 R v nw us σ) : ∃ a c b d, v = .slice a σ.l.length c ∧ nw = .slice b σ.ns.length d ∧ σ.l.length ≤ c ∧ c ≤ maxLen := by
  obtain ⟨b, d, e⟩ := own_slice1 h.names
  rcases h.nodes.2 with ⟨h1, h2⟩ | ⟨g, c, cur, h1, h2, h3, h4, h5, _⟩
  · exact ⟨none, 0, b, d, by rw [h1, h2], e, by omega, by unfold maxLen; omega⟩
  · exact ⟨some ⟨g, 0, none⟩, c, b, d, h1, e, h4, h5⟩
end
end Go.Proofs.YtadgnafafdfioaaGreatDoor.Gr
/-
  Build OF THE DOCUMENT. Conditions: each theorem's own.
-/
namespace Go.Proofs.YtadgnafafdfioaaGreatDoor.Gr
open Go.Proofs.YtadgnafafdfioaaGreatDoor.Rd
set_option maxRecDepth 100000
open Go.RowKit
set_option linter.unusedVariables false
set_option linter.unusedSimpArgs false

theorem inf9g : (Tryz.prog.info? 9).map (fun i => (i.zero, i.size, i.bytes)) = some (some (.string ⟨#[]⟩), 1, 16) := by kernel_rfl
/-- what the document's Build tells -/
def Do (w' : World) (r : Except (Nat × Nat) (List Nd × Int)) (e : Ending) : Prop :=
  match r with
  | .ok (l, loss) => ∃ a c, e = .returned (.tuple #[.agg #[.slice a l.length c, .int .i64 loss], .int .i64 0, .int .i64 0]) ∧ Nl w' a l ∧ l.length ≤ c ∧ c ≤ maxLen
  | .error (i, c) => e = .returned (.tuple #[.agg #[.slice none 0 0, .int .i64 0], .int .i64 (i : Int), .int .i64 (c : Int)])
theorem fni_no {ns : List ByteArray} {x : ByteArray} (h : ¬ 0 ≤ fni ns x) : fnd ns x = none := by
  unfold fni at h
  cases hf : fnd ns x with
  | none => rfl
  | some k => rw [hf] at h; simp at h
theorem fni_yes {ns : List ByteArray} {x : ByteArray} (h : 0 ≤ fni ns x) : ∃ k, fnd ns x = some k ∧ fni ns x = (k : Int) ∧ k < ns.length := by
  unfold fni at h ⊢
  cases hf : fnd ns x with
  | none => rw [hf] at h; simp at h
  | some k => exact ⟨k, rfl, rfl, fnd_lt hf⟩
theorem stl_5 {σ : St} {s : Rd.Sm} (h : isw s.op lLoss = true) (ha : fnds σ.ns s.args = none) : stp σ s = .error 5 := by unfold stp; rw [if_pos h, ha]
theorem stl_6 {σ : St} {s : Rd.Sm} {ks : List Nat} (h : isw s.op lLoss = true) (ha : fnds σ.ns s.args = some ks) (h0 : 0 ≤ σ.loss) : stp σ s = .error 6 := by unfold stp; rw [if_pos h, ha]; simp only; rw [if_pos h0]
theorem stl_7 {σ : St} {s : Rd.Sm} {ks : List Nat} (h : isw s.op lLoss = true) (ha : fnds σ.ns s.args = some ks) (h0 : ¬ 0 ≤ σ.loss) (hs : ¬ (sha σ.l (pA ks)).length = 0) : stp σ s = .error 7 := by unfold stp; rw [if_pos h, ha]; simp only; rw [if_neg h0, if_neg hs]
theorem stl_ok {σ : St} {s : Rd.Sm} {ks : List Nat} (h : isw s.op lLoss = true) (ha : fnds σ.ns s.args = some ks) (h0 : ¬ 0 ≤ σ.loss) (hs : (sha σ.l (pA ks)).length = 0) : stp σ s = .ok { σ with loss := pA ks } := by unfold stp; rw [if_pos h, ha]; simp only; rw [if_neg h0, if_pos hs]
theorem stp_6 {σ : St} {s : Rd.Sm} (h : isw s.op lLoss = false) (hf : 0 ≤ fni σ.ns s.name) : stp σ s = .error 6 := by
  obtain ⟨k, e, _⟩ := fni_yes hf
  unfold stp; rw [if_neg (by rw [h]; decide), e]; rfl
theorem stp_5 {σ : St} {s : Rd.Sm} (h : isw s.op lLoss = false) (hf : ¬ 0 ≤ fni σ.ns s.name) (ha : fnds σ.ns s.args = none) : stp σ s = .error 5 := by
  unfold stp; rw [if_neg (by rw [h]; decide), fni_no hf, if_neg (by simp), ha]
theorem stp_8 {σ : St} {s : Rd.Sm} {ks : List Nat} (h : isw s.op lLoss = false) (hf : ¬ 0 ≤ fni σ.ns s.name) (ha : fnds σ.ns s.args = some ks) (hl : σ.l.length = 200) : stp σ s = .error 8 := by
  unfold stp; rw [if_neg (by rw [h]; decide), fni_no hf, if_neg (by simp), ha]; simp only; rw [if_pos hl]
theorem stp_4 {σ : St} {s : Rd.Sm} {ks : List Nat} (h : isw s.op lLoss = false) (hf : ¬ 0 ≤ fni σ.ns s.name) (ha : fnds σ.ns s.args = some ks) (hl : ¬ σ.l.length = 200) (hs : shp σ.l (nod s (pA ks) (pB ks)) = none) : stp σ s = .error 4 := by
  unfold stp; rw [if_neg (by rw [h]; decide), fni_no hf, if_neg (by simp), ha]; simp only; rw [if_neg hl, hs]
theorem stp_yes {σ : St} {s : Rd.Sm} {ks : List Nat} {d : List Int} (h : isw s.op lLoss = false) (hf : ¬ 0 ≤ fni σ.ns s.name) (ha : fnds σ.ns s.args = some ks) (hl : ¬ σ.l.length = 200) (hs : shp σ.l (nod s (pA ks) (pB ks)) = some d) :
    stp σ s = .ok { σ with l := σ.l ++ [{ nod s (pA ks) (pB ks) with shape := d }], ns := σ.ns ++ [s.name] } := by
  unfold stp; rw [if_neg (by rw [h]; decide), fni_no hf, if_neg (by simp), ha]; simp only; rw [if_neg hl, hs]
theorem cell_one_at {w : World} {x : Value} {t : TypeId} {b : Nat} (hb : w.heap.size = b) : ∀ j u, ([x] : List Value)[j]? = some u → (w.alloc (.cells #[x] t)).cell? ((⟨b, 0, none⟩ : Addr).add j) = some u := by
  subst hb
  exact cell_one_new _ _ _
theorem cells_at {w : World} {xs : List Value} {t : TypeId} {b : Nat} (hb : w.heap.size = b) : ∀ j u, xs[j]? = some u → (w.alloc (.cells xs.toArray t)).cell? ((⟨b, 0, none⟩ : Addr).add j) = some u := by
  subst hb
  intro j u hu
  rw [row_add, Nat.zero_add, World.cell?_alloc_new]
  simpa using hu
theorem pst_args {s : Rd.Sm} (h : Pst s) : s.args.length ≤ 2 := by
  unfold Pst at h
  split at h
  · omega
  · rcases prs_le h with h | h | h <;> omega
theorem pst_loss {s : Rd.Sm} (h : Pst s) (hl : isw s.op lLoss = true) : s.args.length = 1 := by
  unfold Pst at h
  rwa [if_pos hl] at h
/-- what stands of the names when one more has been found -/
theorem two_next {ns args : List ByteArray} {j : Nat} {ks : List Nat} (hj : j < args.length) (h2 : args.length ≤ 2) (h : fnds ns (args.take j) = some ks) (hy : 0 ≤ fni ns (args.getD j em)) :
    ∃ ks', fnds ns (args.take (j + 1)) = some ks' ∧ ((j = 0 ∧ pA ks' = fni ns (args.getD j em) ∧ pB ks' = pB ks) ∨ (j = 1 ∧ pA ks' = pA ks ∧ pB ks' = fni ns (args.getD j em))) := by
  obtain ⟨m, e1, e2, _⟩ := fni_yes hy
  refine ⟨ks ++ [m], fnds_next hj h e1, ?_⟩
  have hl := fnds_len h
  rw [List.length_take, Nat.min_eq_left (by omega)] at hl
  rw [e2]
  match ks, hl with
  | [], hl => exact .inl ⟨by simpa using hl.symm, rfl, rfl⟩
  | [k], hl => exact .inr ⟨by simpa using hl.symm, rfl, rfl⟩
  | _ :: _ :: _, hl => simp at hl; omega
theorem two_none {ns args : List ByteArray} {j : Nat} (hj : j < args.length) (hn : ¬ 0 ≤ fni ns (args.getD j em)) : fnds ns args = none := fnds_stop hj (fni_no hn)
set_option maxHeartbeats 64000000 in
theorem refBuild_any (L : List Rd.Sm) (ao : Option Addr) (c : Nat) (w : World) (hL : Ssl w ao L) (hps : ∀ s ∈ L, Pst s) (hsb : ∀ s ∈ L, Sb s) (hl : L.length ≤ 1000000) :
    Calls Tryz.prog 15 #[.slice ao L.length c] w fun e w' => Do w' (bld s0 0 L) e ∧ Below w.heap.size w w' := by
  obtain ⟨R, hR⟩ : ∃ R, w.heap.size = R := ⟨_, rfl⟩
  obtain ⟨N, hN⟩ : ∃ N, L.length = N := ⟨_, rfl⟩
  have h0 : Dd ((w.alloc (.cells #[.slice none 0 0, .int .i64 0] 24)).alloc (.cells #[.slice none 0 0, .int .i64 (-1)] 24)) w R (.slice none 0 0) (.slice none 0 0) [] s0 := by
    have e1 : (w.alloc (.cells #[.slice none 0 0, .int .i64 0] 24)).heap.size = R + 1 := by rw [← hR]; simp
    have b0 := heap_alloc_new w (.cells #[.slice none 0 0, .int .i64 0] 24)
    rw [hR] at b0
    have b1 := heap_alloc_new (w.alloc (.cells #[.slice none 0 0, .int .i64 0] 24)) (.cells #[.slice none 0 0, .int .i64 (-1)] 24)
    rw [e1] at b1
    refine ⟨hR, ?_, ?_, b1, World.ownsRow_nil _ _ _ _, ⟨rfl, fun i u hu => by simp at hu⟩, World.ownsRow_nil _ _ _ _⟩
    · rw [← hR]; exact bl_alloc (bl_alloc (Below.refl _ _) _) _
    · rw [(bl_alloc (Below.refl (w.alloc (.cells #[.slice none 0 0, .int .i64 0] 24)).heap.size _) _).block R (by omega)]; exact b0
  have H0 : Hid _ := h0
  have HL : Hid (Ssl w ao L) := hL
  have HPs : Hid _ := hps
  have HSb : Hid _ := hsb
  have HDr : Hid (∀ k, k < L.length → ∀ σ i, bld σ i (L.drop k) = match stp σ (L.getD k zr) with | .ok τ => bld τ (i + 1) (L.drop (k + 1)) | .error c => .error (i, c)) := fun k hk σ i => by rw [drop_at L k hk]; rfl
  have HMe : Hid (∀ k, k < L.length → L.getD k zr ∈ L) := fun k hk => getD_mem L k hk
  have HEnd : Hid (L.drop L.length = []) := List.drop_length
  have hfirst : bld s0 0 L = bld s0 0 (L.drop 0) := rfl
  have HFi : Hid _ := hfirst
  obtain ⟨rs, hrs⟩ : ∃ r, bld s0 0 L = r := ⟨_, rfl⟩
  have HRs : Hid _ := hrs
  rw [hrs]
  rw [hN] at HDr HMe HEnd hl ⊢
  have HN : Hid _ := hN
  have HRR : Hid _ := hR
  obtain ⟨i9, hi9, hz90, hz91, hz92⟩ := info_parts inf9g
  obtain ⟨i28, hi28, hz80, hz81, hz82⟩ := info_parts inf28
  clear h0 hL hps hsb hfirst hrs hN
  go_enter Tryz.func15, Tryz.ntmps15
  go_wp2_with fail
  first | simp only [hR] | skip
  clear hR
  go_loopw [6, 7] (fun o i wr => ∃ (k : Nat) (σ : St) (v : Value) (us : List Value), k ≤ N ∧ i = .int .i64 (k : Int) ∧ rs = bld σ k (L.drop k) ∧ Ok σ ∧ Dd wr w R v o us σ) (fun _ i _ => N - (intOf i).toNat)
  case atStart => exact ⟨0, s0, _, [], Nat.zero_le _, rfl, by rw [← HRs.out]; exact HFi.out, Ok.zero, H0.out⟩
  case round =>
    obtain ⟨k, σ, v, us, hk, rfl, hrs, hok, hd⟩ := hrel
    have HQ : Hid _ := hrs
    have HOk : Hid _ := hok
    have HDd : Hid _ := hd
    obtain ⟨a1, c1, a2, c2, rfl, rfl, hcc, hcm⟩ := hd.form
    have HCc : Hid _ := And.intro hcc hcm
    clear hrs hok hd hcc hcm
    by_cases h : k < N
    · skip
      rename World => wo
      obtain ⟨b, off, aa, ca, sa, cz, da, ct, rfl, r1, r2, r3, c0, c1', c2', c3, c4, c5, c6⟩ := HL.out k (by rw [HN.out]; exact h)
      obtain ⟨s, hs⟩ : ∃ z, L.getD k zr = z := ⟨_, rfl⟩
      have hmem := HMe.out k h
      have hdr := HDr.out k h σ k
      rw [hs] at r1 r2 r3 c0 c1' c2' c3 c4 c5 c6 hmem hdr
      have hlow := HDd.out.low'
      replace c0 := cell_below hlow c0
      replace c1' := cell_below hlow c1'
      replace c2' := cell_below hlow c2'
      replace c3 := cell_below hlow c3
      replace c4 := cell_below hlow c4
      replace c5 := cell_below hlow c5
      replace c6 := cell_below hlow c6
      obtain ⟨b1, b2, b3, b4, b5, b6⟩ := HSb.out s hmem
      have hp := HPs.out s hmem
      have h200 := HOk.out.few
      have hlen := HOk.out.len
      have HFn : Hid (∀ v, Below wo.heap.size wo v → ∀ x, Calls Tryz.prog 32 #[.slice a2 σ.ns.length c2, .string x] v fun e w' => e = .returned (.int .i64 (fni σ.ns x)) ∧ w' = v) := fun v hv x => refFind_any σ.ns a2 c2 x v (by omega) (by
        obtain ⟨a, cc, e, hR, _⟩ := Row.of_own (HDd.out.below hv).names
        simp only [Value.slice.injEq] at e
        rw [e.1]; exact hR)
      have HAr : Hid (∀ v, Below wo.heap.size wo v → ∀ i, i < s.args.length → ∃ b off, aa = some ⟨b, off, none⟩ ∧ v.cell? ⟨b, off + i, none⟩ = some (.string (s.args.getD i em))) := fun v hv i hi => row_s (Row.below r1 (HDd.out.below hv).low') hi
      have HSh : Hid (∀ v, Below wo.heap.size wo v → ∀ A B, Calls Tryz.prog 11 #[.slice a1 σ.l.length c1, .agg #[.string s.op, .int .i64 A, .int .i64 B, .string (if nmd s.op = true then s.name else em), .slice sa s.dims.length cz, .string s.k, .int .i64 (s.n : Int), .slice da s.data.length ct]] v fun e w' => Shq R w' (shp σ.l (nod s A B)) e ∧ Below v.heap.size v w') := fun v hv A B =>
        (HDd.out.below hv).shape (nod s A B) sa da cz ct r2 r3 ⟨b3, b5, b4, by simp only [nod]; split; exact b1; exact Nat.zero_le _, b6⟩ (fun i hi => by have := (rgt_at HOk.out.right hi).1; omega)
      have H2 : Hid (s.args.length ≤ 2) := pst_args hp
      have HP : Hid (Pst s) := hp
      have HRr : Hid (Row w da (txts s.data)) := r3
      have HSt : Hid (rs = match stp σ s with | .ok τ => bld τ (k + 1) (L.drop (k + 1)) | .error c => .error (k, c)) := HQ.out.trans hdr
      have HOn : Hid (∀ τ, stp σ s = .ok τ → Ok τ) := fun τ h => stp_ok hp HOk.out h
      have hSS : Hid (wo.heap.size = wo.heap.size) := rfl
      clear hs hmem hdr b1 b2 b3 b4 b5 b6 r1 r2 r3 hp hlow hSS
      obtain ⟨na, hna⟩ : ∃ m, s.args.length = m := ⟨_, rfl⟩
      obtain ⟨nz, hnz⟩ : ∃ m, s.dims.length = m := ⟨_, rfl⟩
      obtain ⟨nt, hnt⟩ : ∃ m, s.data.length = m := ⟨_, rfl⟩
      obtain ⟨ll, hll⟩ : ∃ m, σ.l.length = m := ⟨_, rfl⟩
      obtain ⟨nn, hnn⟩ : ∃ m, σ.ns.length = m := ⟨_, rfl⟩
      obtain ⟨S, hS⟩ : ∃ S, wo.heap.size = S := ⟨_, rfl⟩
      have HNa : Hid _ := hna
      have HNz : Hid _ := hnz
      have HNt : Hid _ := hnt
      have HLL : Hid _ := hll
      have HNN : Hid _ := hnn
      have HSS : Hid _ := hS
      simp only [hna, hnz, hnt, hll, hnn, hS] at HFn HAr HSh H2 HCc c2' c3 c6 h200 hlen ⊢
      clear hna hnz hnt hll hnn
      obtain rfl := hlen.symm
      clear hlen
      have HX : Hid (∀ v, Below (S + 1) (wo.alloc (.cells #[.string s.name, .string s.op, .slice aa na ca, .slice sa nz cz, .string s.k, .int .i64 (s.n : Int), .slice da nt ct] 42)) v → v.heap[S]? = some (.cells #[.string s.name, .string s.op, .slice aa na ca, .slice sa nz cz, .string s.k, .int .i64 (s.n : Int), .slice da nt ct] 42 (0, 0)) ∧ Below S wo v) := fun v hv => by
        have e1 := heap_alloc_new wo (.cells #[.string s.name, .string s.op, .slice aa na ca, .slice sa nz cz, .string s.k, .int .i64 (s.n : Int), .slice da nt ct] 42)
        rw [hS] at e1
        refine ⟨by rw [hv.block S (by omega)]; exact e1, ?_⟩
        have : Below wo.heap.size wo (wo.alloc (.cells #[.string s.name, .string s.op, .slice aa na ca, .slice sa nz cz, .string s.k, .int .i64 (s.n : Int), .slice da nt ct] 42)) := bl_alloc (Below.refl _ _) _
        rw [hS] at this
        exact this.trans (hv.mono (by omega))
      clear hS
      go_upto_region 7 with fail
      simp only [HSS.out]
      obtain ⟨hSx, -⟩ := HX.out (wo.alloc (.cells #[.string s.name, .string s.op, .slice aa na ca, .slice sa nz cz, .string s.k, .int .i64 (s.n : Int), .slice da nt ct] 42)) (Below.refl _ _)
      have q0 : (wo.alloc (.cells #[.string s.name, .string s.op, .slice aa na ca, .slice sa nz cz, .string s.k, .int .i64 (s.n : Int), .slice da nt ct] 42)).cell? ⟨S, 0, none⟩ = some (.string s.name) := by simp [World.cell?, hSx]
      have q1 : (wo.alloc (.cells #[.string s.name, .string s.op, .slice aa na ca, .slice sa nz cz, .string s.k, .int .i64 (s.n : Int), .slice da nt ct] 42)).cell? ⟨S, 1, none⟩ = some (.string s.op) := by simp [World.cell?, hSx]
      have q2 : (wo.alloc (.cells #[.string s.name, .string s.op, .slice aa na ca, .slice sa nz cz, .string s.k, .int .i64 (s.n : Int), .slice da nt ct] 42)).cell? ⟨S, 2, none⟩ = some (.slice aa na ca) := by simp [World.cell?, hSx]
      have q3 : (wo.alloc (.cells #[.string s.name, .string s.op, .slice aa na ca, .slice sa nz cz, .string s.k, .int .i64 (s.n : Int), .slice da nt ct] 42)).cell? ⟨S, 3, none⟩ = some (.slice sa nz cz) := by simp [World.cell?, hSx]
      have q4 : (wo.alloc (.cells #[.string s.name, .string s.op, .slice aa na ca, .slice sa nz cz, .string s.k, .int .i64 (s.n : Int), .slice da nt ct] 42)).cell? ⟨S, 4, none⟩ = some (.string s.k) := by simp [World.cell?, hSx]
      have q5 : (wo.alloc (.cells #[.string s.name, .string s.op, .slice aa na ca, .slice sa nz cz, .string s.k, .int .i64 (s.n : Int), .slice da nt ct] 42)).cell? ⟨S, 5, none⟩ = some (.int .i64 (s.n : Int)) := by simp [World.cell?, hSx]
      have q6 : (wo.alloc (.cells #[.string s.name, .string s.op, .slice aa na ca, .slice sa nz cz, .string s.k, .int .i64 (s.n : Int), .slice da nt ct] 42)).cell? ⟨S, 6, none⟩ = some (.slice da nt ct) := by simp [World.cell?, hSx]
      clear hSx
      cases hlo : isw s.op lLoss with
      | true =>
        have gl := isw_b hlo
        have HOp : Hid (isw s.op lLoss = true) := hlo
        clear hlo
        have e2 : (wo.alloc (.cells #[.string s.name, .string s.op, .slice aa na ca, .slice sa nz cz, .string s.k, .int .i64 (s.n : Int), .slice da nt ct] 42)).heap.size = S + 1 := by have := HSS.out; simp; omega
        have HX2 : Hid (∀ v, Below (S + 1) ((wo.alloc (.cells #[.string s.name, .string s.op, .slice aa na ca, .slice sa nz cz, .string s.k, .int .i64 (s.n : Int), .slice da nt ct] 42)).alloc (.cells #[.string s.op, .int .i64 0, .int .i64 0, .string ⟨#[]⟩, .slice sa nz cz, .string s.k, .int .i64 (s.n : Int), .slice da nt ct] 28)) v → v.heap[S]? = some (.cells #[.string s.name, .string s.op, .slice aa na ca, .slice sa nz cz, .string s.k, .int .i64 (s.n : Int), .slice da nt ct] 42 (0, 0)) ∧ Below S wo v) := fun v hv => HX.out v ((by have := bl_alloc (Below.refl _ (wo.alloc (.cells #[.string s.name, .string s.op, .slice aa na ca, .slice sa nz cz, .string s.k, .int .i64 (s.n : Int), .slice da nt ct] 42))) (.cells #[.string s.op, .int .i64 0, .int .i64 0, .string ⟨#[]⟩, .slice sa nz cz, .string s.k, .int .i64 (s.n : Int), .slice da nt ct] 28); rw [e2] at this; exact this : Below (S + 1) (wo.alloc (.cells #[.string s.name, .string s.op, .slice aa na ca, .slice sa nz cz, .string s.k, .int .i64 (s.n : Int), .slice da nt ct] 42)) ((wo.alloc (.cells #[.string s.name, .string s.op, .slice aa na ca, .slice sa nz cz, .string s.k, .int .i64 (s.n : Int), .slice da nt ct] 42)).alloc (.cells #[.string s.op, .int .i64 0, .int .i64 0, .string ⟨#[]⟩, .slice sa nz cz, .string s.k, .int .i64 (s.n : Int), .slice da nt ct] 28))).trans hv)
        have HN2 : Hid (((wo.alloc (.cells #[.string s.name, .string s.op, .slice aa na ca, .slice sa nz cz, .string s.k, .int .i64 (s.n : Int), .slice da nt ct] 42)).alloc (.cells #[.string s.op, .int .i64 0, .int .i64 0, .string ⟨#[]⟩, .slice sa nz cz, .string s.k, .int .i64 (s.n : Int), .slice da nt ct] 28)).heap[S + 1]? = some (.cells #[.string s.op, .int .i64 0, .int .i64 0, .string ⟨#[]⟩, .slice sa nz cz, .string s.k, .int .i64 (s.n : Int), .slice da nt ct] 28 (0, 0))) := by
          have := heap_alloc_new (wo.alloc (.cells #[.string s.name, .string s.op, .slice aa na ca, .slice sa nz cz, .string s.k, .int .i64 (s.n : Int), .slice da nt ct] 42)) (.cells #[.string s.op, .int .i64 0, .int .i64 0, .string ⟨#[]⟩, .slice sa nz cz, .string s.k, .int .i64 (s.n : Int), .slice da nt ct] 28)
          rw [e2] at this
          exact this
        clear e2
        go_wp2_with fail
        clear q0 q1 q2 q3 q4 q5 q6
        first | simp only [HSS.out] | skip
        go_loopw [10] (fun i wq => ∃ (j : Nat) (ks : List Nat) (A B : Int), j ≤ na ∧ i = .int .i64 (j : Int) ∧ fnds σ.ns (s.args.take j) = some ks ∧ A = pA ks ∧ B = pB ks ∧ wq.heap[S + 1]? = some (.cells #[.string s.op, .int .i64 A, .int .i64 B, .string ⟨#[]⟩, .slice sa nz cz, .string s.k, .int .i64 (s.n : Int), .slice da nt ct] 28 (0, 0)) ∧ Below (S + 1) ((wo.alloc (.cells #[.string s.name, .string s.op, .slice aa na ca, .slice sa nz cz, .string s.k, .int .i64 (s.n : Int), .slice da nt ct] 42)).alloc (.cells #[.string s.op, .int .i64 0, .int .i64 0, .string ⟨#[]⟩, .slice sa nz cz, .string s.k, .int .i64 (s.n : Int), .slice da nt ct] 28)) wq) (fun i _ => na - (intOf i).toNat)
        case atStart => exact ⟨0, [], 0, 0, Nat.zero_le _, rfl, rfl, rfl, rfl, HN2.out, Below.refl _ _⟩
        case round =>
          obtain ⟨j, ks, A, B, hj, rfl, hks, hA, hB, hn, hbq⟩ := hrel
          have HKs : Hid (fnds σ.ns (s.args.take j) = some ks ∧ A = pA ks ∧ B = pB ks) := ⟨hks, hA, hB⟩
          have HBq : Hid _ := hbq
          have HNq : Hid _ := hn
          clear hks hA hB
          obtain ⟨hSx, hSl⟩ := HX2.out wr hbq
          have q0 : wr.cell? ⟨S, 0, none⟩ = some (.string s.name) := by simp [World.cell?, hSx]
          have q1 : wr.cell? ⟨S, 1, none⟩ = some (.string s.op) := by simp [World.cell?, hSx]
          have q2 : wr.cell? ⟨S, 2, none⟩ = some (.slice aa na ca) := by simp [World.cell?, hSx]
          have q3 : wr.cell? ⟨S, 3, none⟩ = some (.slice sa nz cz) := by simp [World.cell?, hSx]
          have q4 : wr.cell? ⟨S, 4, none⟩ = some (.string s.k) := by simp [World.cell?, hSx]
          have q5 : wr.cell? ⟨S, 5, none⟩ = some (.int .i64 (s.n : Int)) := by simp [World.cell?, hSx]
          have q6 : wr.cell? ⟨S, 6, none⟩ = some (.slice da nt ct) := by simp [World.cell?, hSx]
          have HSl : Hid (Below S wo wr) := hSl
          clear hSx hSl hbq
          by_cases hjn : j < na
          · obtain ⟨b', off', rfl, hx⟩ := HAr.out wr (by first | exact HSl.out | (rw [HSS.out]; exact HSl.out)) j hjn
            obtain ⟨x, hxe⟩ : ∃ z, s.args.getD j em = z := ⟨_, rfl⟩
            rw [hxe] at hx
            have HF := HFn.out wr (by first | exact HSl.out | (rw [HSS.out]; exact HSl.out)) x
            obtain ⟨F, hF⟩ : ∃ z, fni σ.ns x = z := ⟨_, rfl⟩
            rw [hF] at HF
            have HFx : Hid (fni σ.ns (s.args.getD j em) = F) := by rw [hxe]; exact hF
            clear hxe hF
            go_upto_region 13 with fail
            go_wp2_with fail
            refine HF.mono ?_
            rintro e wf ⟨rfl, hwf⟩
            replace hwf := hwf.symm
            subst hwf
            clear HF hx
            by_cases hy : 0 ≤ F
            · have hy1 : decide (F < 0) = false := decide_eq_false (by omega)
              have hnx := two_next (by rw [HNa.out]; exact hjn) (by rw [HNa.out]; exact H2.out) HKs.out.1 (by rw [HFx.out]; exact hy)
              rw [HFx.out] at hnx
              obtain ⟨ks', hk1, hk2⟩ := hnx
              have hn1 : wr.cell? ⟨S + 1, 1, none⟩ = some (.int .i64 A) := by simp [World.cell?, hn]
              have hn2 : wr.cell? ⟨S + 1, 2, none⟩ = some (.int .i64 B) := by simp [World.cell?, hn]
              have hnf : ∀ i, wr.frozen? ⟨S + 1, i, none⟩ = false := fun i => by simp [World.frozen?, hn]
              have HK1 : Hid _ := hk1
              clear hn hk1
              rcases hk2 with ⟨rfl, hk2⟩ | ⟨rfl, hk2⟩
              · have HK2 : Hid _ := hk2
                clear hk2
                go_wp2_with fail
                go_roundw
                case rel => exact ⟨1, ks', F, B, by omega, by go_num, HK1.out, HK2.out.1.symm, HKs.out.2.2.trans HK2.out.2.symm, heap_setCell_same _ _ _ _ _ _ HNq.out, HBq.out.setCell (Nat.le_refl _) _⟩
                case measure => simp [intOf]; omega
              · have HK2 : Hid _ := hk2
                clear hk2
                go_wp2_with fail
                go_roundw
                case rel => exact ⟨2, ks', A, F, by omega, by go_num, HK1.out, HKs.out.2.1.trans HK2.out.1.symm, HK2.out.2.symm, heap_setCell_same _ _ _ _ _ _ HNq.out, HBq.out.setCell (Nat.le_refl _) _⟩
                case measure => simp [intOf]; omega
            · have hy1 : decide (F < 0) = true := decide_eq_true (by omega)
              have HEr : Hid (rs = .error (k, 5)) := by
                have h1 := two_none (ns := σ.ns) (by rw [HNa.out]; exact hjn) (by rw [HFx.out]; exact hy)
                rw [HSt.out, stl_5 HOp.out h1]
                exact rfl
              clear q0 q1 q2 q3 q4 q5 q6 hn
              have hdz := HDd.out.below (w' := wr) (by rw [HSS.out]; exact HSl.out)
              have z0 := hdz.z0
              have z1 := hdz.z1
              have zf := hdz.zf
              have HLw : Hid (Below w.heap.size w wr) := hdz.low'
              clear hdz
              go_wp2
              refine bodyPost_ret (v := .tuple #[.agg #[.slice none 0 0, .int .i64 0], .int .i64 (k : Int), .int .i64 5]) (by simp [results, Tryz.results15, go_sem, z0, z1, zf]) rfl ⟨by rw [HEr.out]; rfl, (HLw.out.setCell (by rw [HRR.out]; exact Nat.le_refl _) _).setCell (by rw [HRR.out]; exact Nat.le_refl _) _⟩
          · have hjn' : na = j := by omega
            subst hjn'
            have HKf : Hid (fnds σ.ns s.args = some ks) := by
              have := HKs.out.1
              rwa [← HNa.out, List.take_length] at this
            have HAB : Hid (A = pA ks ∧ B = pB ks) := HKs.out.2
            have hdr := HDd.out.below (w' := wr) (by rw [HSS.out]; exact HSl.out)
            have HDr2 : Hid (Dd wr w R (.slice a1 σ.l.length c1) (.slice a2 σ.ns.length c2) us σ) := hdr
            have d0 := hdr.c0
            have d1 := hdr.c1
            have df := hdr.fz
            have hk1 : ∃ m, ks = [m] ∧ m < σ.l.length := by
              have h1 := fnds_len HKf.out
              rw [pst_loss HP.out HOp.out] at h1
              match ks, h1, HKf.out with
              | [m], _, h => exact ⟨m, rfl, by have := fnds_lt h m List.mem_cons_self; have := HOk.out.len; omega⟩
            obtain ⟨m, hkm, hml⟩ := hk1
            have hA : A = (m : Int) := by rw [HAB.out.1, hkm]; rfl
            subst hA
            have HM : Hid (pA ks = (m : Int)) := by rw [hkm]; rfl
            obtain ⟨g, u, hga, ⟨sa', sc', da', dc', rfl, -, -, -⟩, hcs⟩ := hdr.all.cells hdr.nodes rfl hml
            have hc4 := hcs 4 (by omega)
            have HZl : Hid (sha σ.l (pA ks) = (σ.l.getD m zn).shape) := by rw [HM.out]; exact rfl
            obtain ⟨zl, hzl⟩ : ∃ z, (σ.l.getD m zn).shape.length = z := ⟨_, rfl⟩
            simp only [ncs, hzl] at hc4
            have HZz : Hid ((σ.l.getD m zn).shape.length = zl) := hzl
            obtain ⟨lo, hloe⟩ : ∃ z, σ.loss = z := ⟨_, rfl⟩
            have HLo : Hid (σ.loss = lo) := hloe
            rw [hloe] at d1
            rw [HLL.out] at d0 hml
            subst hga
            have hn1 : wr.cell? ⟨S + 1, 1, none⟩ = some (.int .i64 (m : Int)) := by simp [World.cell?, hn]
            have hc4' : wr.cell? ⟨g, m * 8 + 4, none⟩ = some (.slice sa' zl sc') := hc4
            clear hdr hkm hzl hloe hcs hc4 hn
            by_cases h0 : 0 ≤ lo
            · have HEr : Hid (rs = .error (k, 6)) := by
                rw [HSt.out, stl_6 HOp.out HKf.out (by rw [HLo.out]; exact h0)]
                exact rfl
              have h01 : decide (lo < 0) = false := decide_eq_false (by omega)
              have hdz := HDd.out.below (w' := wr) (by rw [HSS.out]; exact HSl.out)
              have z0 := hdz.z0
              have z1 := hdz.z1
              have zf := hdz.zf
              have HLw : Hid (Below w.heap.size w wr) := hdz.low'
              clear hdz
              go_wp2
              refine bodyPost_ret (v := .tuple #[.agg #[.slice none 0 0, .int .i64 0], .int .i64 (k : Int), .int .i64 6]) (by simp [results, Tryz.results15, go_sem, z0, z1, zf]) rfl ⟨by rw [HEr.out]; rfl, (HLw.out.setCell (by rw [HRR.out]; exact Nat.le_refl _) _).setCell (by rw [HRR.out]; exact Nat.le_refl _) _⟩
            · have h01 : decide (0 ≤ lo) = false := decide_eq_false (by omega)
              by_cases hz : zl = 0
              · have HEq : Hid (rs = bld { σ with loss := (m : Int) } (k + 1) (L.drop (k + 1)) ∧ Ok { σ with loss := (m : Int) }) := by
                  have h1 := stl_ok HOp.out HKf.out (by rw [HLo.out]; exact h0) (by rw [HZl.out, HZz.out]; exact hz)
                  rw [HM.out] at h1
                  refine ⟨?_, HOn.out _ h1⟩
                  rw [HSt.out, h1]
                subst hz
                go_wp2_with fail
                go_roundw
                case rel => exact ⟨k + 1, _, _, us, by omega, by go_num, HEq.out.1, HEq.out.2, by have h := HDr2.out; rw [HLL.out, HNN.out] at h; exact h.lossed _⟩
                case measure => simp [intOf]; omega
              · have HEr : Hid (rs = .error (k, 7)) := by
                  rw [HSt.out, stl_7 HOp.out HKf.out (by rw [HLo.out]; exact h0) (by rw [HZl.out, HZz.out]; exact hz)]
                  exact rfl
                have hz1 : 0 < zl := by omega
                have hdz := HDd.out.below (w' := wr) (by rw [HSS.out]; exact HSl.out)
                have z0 := hdz.z0
                have z1 := hdz.z1
                have zf := hdz.zf
                have HLw : Hid (Below w.heap.size w wr) := hdz.low'
                clear hdz
                go_wp2
                refine bodyPost_ret (v := .tuple #[.agg #[.slice none 0 0, .int .i64 0], .int .i64 (k : Int), .int .i64 7]) (by simp [results, Tryz.results15, go_sem, z0, z1, zf]) rfl ⟨by rw [HEr.out]; rfl, (HLw.out.setCell (by rw [HRR.out]; exact Nat.le_refl _) _).setCell (by rw [HRR.out]; exact Nat.le_refl _) _⟩
      | false =>
        have gl := isw_b hlo
        have HOp : Hid (isw s.op lLoss = false) := hlo
        clear hlo
        have hw1 : Below S wo (wo.alloc (.cells #[.string s.name, .string s.op, .slice aa na ca, .slice sa nz cz, .string s.k, .int .i64 (s.n : Int), .slice da nt ct] 42)) := (HX.out _ (Below.refl _ _)).2
        have HF0 := HFn.out _ hw1 s.name
        have HW1 : Hid _ := hw1
        obtain ⟨F0, hF0⟩ : ∃ z, fni σ.ns s.name = z := ⟨_, rfl⟩
        rw [hF0] at HF0
        have HFe : Hid (fni σ.ns s.name = F0) := hF0
        clear hF0 hw1
        go_wp2_with fail
        refine HF0.mono ?_
        rintro e wf ⟨rfl, hwf⟩
        replace hwf := hwf.symm
        subst hwf
        clear HF0
        by_cases hy0 : 0 ≤ F0
        · have HEr : Hid (rs = .error (k, 6)) := by
            rw [HSt.out, stp_6 HOp.out (by rw [HFe.out]; exact hy0)]
            exact rfl
          clear q0 q1 q2 q3 q4 q5 q6
          have hdz := HDd.out.below (w' := (wo.alloc (.cells #[.string s.name, .string s.op, .slice aa na ca, .slice sa nz cz, .string s.k, .int .i64 (s.n : Int), .slice da nt ct] 42))) (by rw [HSS.out]; exact HW1.out)
          have z0 := hdz.z0
          have z1 := hdz.z1
          have zf := hdz.zf
          have HLw : Hid (Below w.heap.size w (wo.alloc (.cells #[.string s.name, .string s.op, .slice aa na ca, .slice sa nz cz, .string s.k, .int .i64 (s.n : Int), .slice da nt ct] 42))) := hdz.low'
          clear hdz
          go_wp2
          refine bodyPost_ret (v := .tuple #[.agg #[.slice none 0 0, .int .i64 0], .int .i64 (k : Int), .int .i64 6]) (by simp [results, Tryz.results15, go_sem, z0, z1, zf]) rfl ⟨by rw [HEr.out]; rfl, (HLw.out.setCell (by rw [HRR.out]; exact Nat.le_refl _) _).setCell (by rw [HRR.out]; exact Nat.le_refl _) _⟩
        have HNm : Hid (fni σ.ns s.name < 0) := by rw [HFe.out]; exact Int.not_le.1 hy0
        have hy01 : decide (0 ≤ F0) = false := decide_eq_false hy0
        have e2 : (wo.alloc (.cells #[.string s.name, .string s.op, .slice aa na ca, .slice sa nz cz, .string s.k, .int .i64 (s.n : Int), .slice da nt ct] 42)).heap.size = S + 1 := by have := HSS.out; simp; omega
        have HX2 : Hid (∀ v, Below (S + 1) ((wo.alloc (.cells #[.string s.name, .string s.op, .slice aa na ca, .slice sa nz cz, .string s.k, .int .i64 (s.n : Int), .slice da nt ct] 42)).alloc (.cells #[.string s.op, .int .i64 0, .int .i64 0, .string ⟨#[]⟩, .slice sa nz cz, .string s.k, .int .i64 (s.n : Int), .slice da nt ct] 28)) v → v.heap[S]? = some (.cells #[.string s.name, .string s.op, .slice aa na ca, .slice sa nz cz, .string s.k, .int .i64 (s.n : Int), .slice da nt ct] 42 (0, 0)) ∧ Below S wo v) := fun v hv => HX.out v ((by have := bl_alloc (Below.refl _ (wo.alloc (.cells #[.string s.name, .string s.op, .slice aa na ca, .slice sa nz cz, .string s.k, .int .i64 (s.n : Int), .slice da nt ct] 42))) (.cells #[.string s.op, .int .i64 0, .int .i64 0, .string ⟨#[]⟩, .slice sa nz cz, .string s.k, .int .i64 (s.n : Int), .slice da nt ct] 28); rw [e2] at this; exact this : Below (S + 1) (wo.alloc (.cells #[.string s.name, .string s.op, .slice aa na ca, .slice sa nz cz, .string s.k, .int .i64 (s.n : Int), .slice da nt ct] 42)) ((wo.alloc (.cells #[.string s.name, .string s.op, .slice aa na ca, .slice sa nz cz, .string s.k, .int .i64 (s.n : Int), .slice da nt ct] 42)).alloc (.cells #[.string s.op, .int .i64 0, .int .i64 0, .string ⟨#[]⟩, .slice sa nz cz, .string s.k, .int .i64 (s.n : Int), .slice da nt ct] 28))).trans hv)
        have HN2 : Hid (((wo.alloc (.cells #[.string s.name, .string s.op, .slice aa na ca, .slice sa nz cz, .string s.k, .int .i64 (s.n : Int), .slice da nt ct] 42)).alloc (.cells #[.string s.op, .int .i64 0, .int .i64 0, .string ⟨#[]⟩, .slice sa nz cz, .string s.k, .int .i64 (s.n : Int), .slice da nt ct] 28)).heap[S + 1]? = some (.cells #[.string s.op, .int .i64 0, .int .i64 0, .string ⟨#[]⟩, .slice sa nz cz, .string s.k, .int .i64 (s.n : Int), .slice da nt ct] 28 (0, 0))) := by
          have := heap_alloc_new (wo.alloc (.cells #[.string s.name, .string s.op, .slice aa na ca, .slice sa nz cz, .string s.k, .int .i64 (s.n : Int), .slice da nt ct] 42)) (.cells #[.string s.op, .int .i64 0, .int .i64 0, .string ⟨#[]⟩, .slice sa nz cz, .string s.k, .int .i64 (s.n : Int), .slice da nt ct] 28)
          rw [e2] at this
          exact this
        clear e2
        go_wp2_with fail
        clear q0 q1 q2 q3 q4 q5 q6
        first | simp only [HSS.out] | skip
        go_loopw [10] (fun i wq => ∃ (j : Nat) (ks : List Nat) (A B : Int), j ≤ na ∧ i = .int .i64 (j : Int) ∧ fnds σ.ns (s.args.take j) = some ks ∧ A = pA ks ∧ B = pB ks ∧ wq.heap[S + 1]? = some (.cells #[.string s.op, .int .i64 A, .int .i64 B, .string ⟨#[]⟩, .slice sa nz cz, .string s.k, .int .i64 (s.n : Int), .slice da nt ct] 28 (0, 0)) ∧ Below (S + 1) ((wo.alloc (.cells #[.string s.name, .string s.op, .slice aa na ca, .slice sa nz cz, .string s.k, .int .i64 (s.n : Int), .slice da nt ct] 42)).alloc (.cells #[.string s.op, .int .i64 0, .int .i64 0, .string ⟨#[]⟩, .slice sa nz cz, .string s.k, .int .i64 (s.n : Int), .slice da nt ct] 28)) wq) (fun i _ => na - (intOf i).toNat)
        case atStart => exact ⟨0, [], 0, 0, Nat.zero_le _, rfl, rfl, rfl, rfl, HN2.out, Below.refl _ _⟩
        case round =>
          obtain ⟨j, ks, A, B, hj, rfl, hks, hA, hB, hn, hbq⟩ := hrel
          have HKs : Hid (fnds σ.ns (s.args.take j) = some ks ∧ A = pA ks ∧ B = pB ks) := ⟨hks, hA, hB⟩
          have HBq : Hid _ := hbq
          have HNq : Hid _ := hn
          clear hks hA hB
          obtain ⟨hSx, hSl⟩ := HX2.out wr hbq
          have q0 : wr.cell? ⟨S, 0, none⟩ = some (.string s.name) := by simp [World.cell?, hSx]
          have q1 : wr.cell? ⟨S, 1, none⟩ = some (.string s.op) := by simp [World.cell?, hSx]
          have q2 : wr.cell? ⟨S, 2, none⟩ = some (.slice aa na ca) := by simp [World.cell?, hSx]
          have q3 : wr.cell? ⟨S, 3, none⟩ = some (.slice sa nz cz) := by simp [World.cell?, hSx]
          have q4 : wr.cell? ⟨S, 4, none⟩ = some (.string s.k) := by simp [World.cell?, hSx]
          have q5 : wr.cell? ⟨S, 5, none⟩ = some (.int .i64 (s.n : Int)) := by simp [World.cell?, hSx]
          have q6 : wr.cell? ⟨S, 6, none⟩ = some (.slice da nt ct) := by simp [World.cell?, hSx]
          have HSl : Hid (Below S wo wr) := hSl
          clear hSx hSl hbq
          by_cases hjn : j < na
          · obtain ⟨b', off', rfl, hx⟩ := HAr.out wr (by first | exact HSl.out | (rw [HSS.out]; exact HSl.out)) j hjn
            obtain ⟨x, hxe⟩ : ∃ z, s.args.getD j em = z := ⟨_, rfl⟩
            rw [hxe] at hx
            have HF := HFn.out wr (by first | exact HSl.out | (rw [HSS.out]; exact HSl.out)) x
            obtain ⟨F, hF⟩ : ∃ z, fni σ.ns x = z := ⟨_, rfl⟩
            rw [hF] at HF
            have HFx : Hid (fni σ.ns (s.args.getD j em) = F) := by rw [hxe]; exact hF
            clear hxe hF
            go_upto_region 13 with fail
            go_wp2_with fail
            refine HF.mono ?_
            rintro e wf ⟨rfl, hwf⟩
            replace hwf := hwf.symm
            subst hwf
            clear HF hx
            by_cases hy : 0 ≤ F
            · have hy1 : decide (F < 0) = false := decide_eq_false (by omega)
              have hnx := two_next (by rw [HNa.out]; exact hjn) (by rw [HNa.out]; exact H2.out) HKs.out.1 (by rw [HFx.out]; exact hy)
              rw [HFx.out] at hnx
              obtain ⟨ks', hk1, hk2⟩ := hnx
              have hn1 : wr.cell? ⟨S + 1, 1, none⟩ = some (.int .i64 A) := by simp [World.cell?, hn]
              have hn2 : wr.cell? ⟨S + 1, 2, none⟩ = some (.int .i64 B) := by simp [World.cell?, hn]
              have hnf : ∀ i, wr.frozen? ⟨S + 1, i, none⟩ = false := fun i => by simp [World.frozen?, hn]
              have HK1 : Hid _ := hk1
              clear hn hk1
              rcases hk2 with ⟨rfl, hk2⟩ | ⟨rfl, hk2⟩
              · have HK2 : Hid _ := hk2
                clear hk2
                go_wp2_with fail
                go_roundw
                case rel => exact ⟨1, ks', F, B, by omega, by go_num, HK1.out, HK2.out.1.symm, HKs.out.2.2.trans HK2.out.2.symm, heap_setCell_same _ _ _ _ _ _ HNq.out, HBq.out.setCell (Nat.le_refl _) _⟩
                case measure => simp [intOf]; omega
              · have HK2 : Hid _ := hk2
                clear hk2
                go_wp2_with fail
                go_roundw
                case rel => exact ⟨2, ks', A, F, by omega, by go_num, HK1.out, HKs.out.2.1.trans HK2.out.1.symm, HK2.out.2.symm, heap_setCell_same _ _ _ _ _ _ HNq.out, HBq.out.setCell (Nat.le_refl _) _⟩
                case measure => simp [intOf]; omega
            · have hy1 : decide (F < 0) = true := decide_eq_true (by omega)
              have HEr : Hid (rs = .error (k, 5)) := by
                have h1 := two_none (ns := σ.ns) (by rw [HNa.out]; exact hjn) (by rw [HFx.out]; exact hy)
                rw [HSt.out, stp_5 HOp.out (Int.not_le.2 HNm.out) h1]
                exact rfl
              clear q0 q1 q2 q3 q4 q5 q6 hn
              have hdz := HDd.out.below (w' := wr) (by rw [HSS.out]; exact HSl.out)
              have z0 := hdz.z0
              have z1 := hdz.z1
              have zf := hdz.zf
              have HLw : Hid (Below w.heap.size w wr) := hdz.low'
              clear hdz
              go_wp2
              refine bodyPost_ret (v := .tuple #[.agg #[.slice none 0 0, .int .i64 0], .int .i64 (k : Int), .int .i64 5]) (by simp [results, Tryz.results15, go_sem, z0, z1, zf]) rfl ⟨by rw [HEr.out]; rfl, (HLw.out.setCell (by rw [HRR.out]; exact Nat.le_refl _) _).setCell (by rw [HRR.out]; exact Nat.le_refl _) _⟩
          · have hjn' : na = j := by omega
            subst hjn'
            have HKf : Hid (fnds σ.ns s.args = some ks) := by
              have := HKs.out.1
              rwa [← HNa.out, List.take_length] at this
            have HAB : Hid (A = pA ks ∧ B = pB ks) := HKs.out.2
            cases hpa : isw s.op lParam with
            | true =>
              have gp := isw_b hpa
              have hnmd : nmd s.op = true := by unfold nmd; rw [hpa]; rfl
              clear hpa
              have hn3 : wr.cell? ⟨S + 1, 3, none⟩ = some (.string ⟨#[]⟩) := by simp [World.cell?, hn]
              have hnf : ∀ i, wr.frozen? ⟨S + 1, i, none⟩ = false := fun i => by simp [World.frozen?, hn]
              clear hn
              go_upto_region 27 with fail
              clear q0 q1 q2 q3 q4 q5 q6 hn3 hnf
              have hbn : Below (S + 1) ((wo.alloc (.cells #[.string s.name, .string s.op, .slice aa na ca, .slice sa nz cz, .string s.k, .int .i64 (s.n : Int), .slice da nt ct] 42)).alloc (.cells #[.string s.op, .int .i64 0, .int .i64 0, .string ⟨#[]⟩, .slice sa nz cz, .string s.k, .int .i64 (s.n : Int), .slice da nt ct] 28)) (wr.setCell ⟨S + 1, 3, none⟩ (.string s.name)) := HBq.out.setCell (Nat.le_refl _) _
              have hn : (wr.setCell ⟨S + 1, 3, none⟩ (.string s.name)).heap[S + 1]? = some (.cells #[.string s.op, .int .i64 A, .int .i64 B, .string s.name, .slice sa nz cz, .string s.k, .int .i64 (s.n : Int), .slice da nt ct] 28 (0, 0)) := heap_setCell_same _ _ _ _ _ _ HNq.out
              generalize hwn : (wr.setCell ⟨S + 1, 3, none⟩ (.string s.name)) = wn at hbn hn ⊢
              clear hwn
              obtain ⟨hSx, hSl⟩ := HX2.out wn hbn
              have HSn : Hid (Below S wo wn) := hSl
              have HSx : Hid (wn.heap[S]? = some (.cells #[.string s.name, .string s.op, .slice aa na ca, .slice sa nz cz, .string s.k, .int .i64 (s.n : Int), .slice da nt ct] 42 (0, 0))) := hSx
              have HNn : Hid _ := hn
              have hdn := HDd.out.below (w' := wn) (by rw [HSS.out]; exact hSl)
              have d0 := hdn.c0
              rw [HLL.out] at d0
              have HDn : Hid (Dd wn w R (.slice a1 σ.l.length c1) (.slice a2 σ.ns.length c2) us σ) := hdn
              clear hSx hSl hdn hbn
              by_cases h2 : ll = 200
              · have HEr : Hid (rs = .error (k, 8)) := by
                  rw [HSt.out, stp_8 HOp.out (Int.not_le.2 HNm.out) HKf.out (by rw [HLL.out]; exact h2)]
                  exact rfl
                have h21 : ((ll : Int) == 200) = true := by simp; omega
                clear hn
                have hdz := HDd.out.below (w' := wn) (by rw [HSS.out]; exact HSn.out)
                have z0 := hdz.z0
                have z1 := hdz.z1
                have zf := hdz.zf
                have HLw : Hid (Below w.heap.size w wn) := hdz.low'
                clear hdz
                go_wp2
                refine bodyPost_ret (v := .tuple #[.agg #[.slice none 0 0, .int .i64 0], .int .i64 (k : Int), .int .i64 8]) (by simp [results, Tryz.results15, go_sem, z0, z1, zf]) rfl ⟨by rw [HEr.out]; rfl, (HLw.out.setCell (by rw [HRR.out]; exact Nat.le_refl _) _).setCell (by rw [HRR.out]; exact Nat.le_refl _) _⟩
              · have h21 : ((ll : Int) == 200) = false := by simp; omega
                have n0 : wn.cell? ⟨S + 1, 0, none⟩ = some (.string s.op) := by simp [World.cell?, hn]
                have n1 : wn.cell? ⟨S + 1, 1, none⟩ = some (.int .i64 A) := by simp [World.cell?, hn]
                have n2 : wn.cell? ⟨S + 1, 2, none⟩ = some (.int .i64 B) := by simp [World.cell?, hn]
                have n3 : wn.cell? ⟨S + 1, 3, none⟩ = some (.string s.name) := by simp [World.cell?, hn]
                have n4 : wn.cell? ⟨S + 1, 4, none⟩ = some (.slice sa nz cz) := by simp [World.cell?, hn]
                have n5 : wn.cell? ⟨S + 1, 5, none⟩ = some (.string s.k) := by simp [World.cell?, hn]
                have n6 : wn.cell? ⟨S + 1, 6, none⟩ = some (.int .i64 (s.n : Int)) := by simp [World.cell?, hn]
                have n7 : wn.cell? ⟨S + 1, 7, none⟩ = some (.slice da nt ct) := by simp [World.cell?, hn]
                have HSc := HSh.out wn HSn.out A B
                have HAn : Hid (nmd s.op = true) := hnmd
                rw [hnmd, if_pos rfl] at HSc
                obtain ⟨so, hso⟩ : ∃ z, shp σ.l (nod s A B) = z := ⟨_, rfl⟩
                rw [hso] at HSc
                have HSo : Hid (shp σ.l (nod s (pA ks) (pB ks)) = so) := by rw [← HAB.out.1, ← HAB.out.2]; exact hso
                have HLx : Hid (¬ σ.l.length = 200) := by rw [HLL.out]; exact h2
                have HNl : Hid (S + 1 < wn.heap.size) := (Array.getElem?_eq_some_iff.1 hn).1
                clear hso hn
                cases so with
                | none =>
                  have HEr : Hid (rs = .error (k, 4)) := by
                    rw [HSt.out, stp_4 HOp.out (Int.not_le.2 HNm.out) HKf.out HLx.out HSo.out]
                    exact rfl
                  go_upto_region 29 with fail
                  go_wp2_with fail
                  refine HSc.mono ?_
                  rintro e w4 ⟨⟨a3, n3', c3, rfl⟩, h4⟩
                  have HS4 : Hid (Below S wo w4) := HSn.out.trans (h4.mono (by have := HNl.out; omega))
                  clear h4 HSc n0 n1 n2 n3 n4 n5 n6 n7 d0
                  have hdz := HDd.out.below (w' := w4) (by rw [HSS.out]; exact HS4.out)
                  have z0 := hdz.z0
                  have z1 := hdz.z1
                  have zf := hdz.zf
                  have HLw : Hid (Below w.heap.size w w4) := hdz.low'
                  clear hdz
                  go_wp2
                  refine bodyPost_ret (v := .tuple #[.agg #[.slice none 0 0, .int .i64 0], .int .i64 (k : Int), .int .i64 4]) (by simp [results, Tryz.results15, go_sem, z0, z1, zf]) rfl ⟨by rw [HEr.out]; rfl, (HLw.out.setCell (by rw [HRR.out]; exact Nat.le_refl _) _).setCell (by rw [HRR.out]; exact Nat.le_refl _) _⟩
                | some d =>
                  go_upto_region 29 with fail
                  go_wp2_with fail
                  refine HSc.mono ?_
                  rintro e w4 ⟨⟨a3, c3, rfl, hs3, hp3⟩, h4⟩
                  have HS4 : Hid (Below S wo w4) := HSn.out.trans (h4.mono (by have := HNl.out; omega))
                  have hn4 := kd_below h4 HNn.out
                  have hx4 := kd_below h4 HSx.out
                  obtain ⟨dn, hdn⟩ : ∃ m, d.length = m := ⟨_, rfl⟩
                  have HDl : Hid (d.length = dn) := hdn
                  simp only [hdn]
                  have hn44 : w4.cell? ⟨S + 1, 4, none⟩ = some (.slice sa nz cz) := by simp [World.cell?, hn4]
                  have hnf4 : ∀ i, w4.frozen? ⟨S + 1, i, none⟩ = false := fun i => by simp [World.frozen?, hn4]
                  have HP3 : Hid (Sp.Sl w4 a3 d ∧ Pe R w4 a3 d ∧ w4.heap[S + 1]? = some (.cells #[.string s.op, .int .i64 A, .int .i64 B, .string s.name, .slice sa nz cz, .string s.k, .int .i64 (s.n : Int), .slice da nt ct] 28 (0, 0)) ∧ w4.heap[S]? = some (.cells #[.string s.name, .string s.op, .slice aa na ca, .slice sa nz cz, .string s.k, .int .i64 (s.n : Int), .slice da nt ct] 42 (0, 0))) := ⟨hs3, hp3, hn4, hx4⟩
                  clear hs3 hp3 h4 hn4 hx4 hdn HSc n0 n1 n2 n3 n4 n5 n6 n7 d0
                  go_upto_region 33 with fail
                  clear hn44 hnf4
                  have h5S : Below S wo (w4.setCell ⟨S + 1, 4, none⟩ (.slice a3 dn c3)) := HS4.out.setCell (Nat.le_succ S) _
                  have hn5 : (w4.setCell ⟨S + 1, 4, none⟩ (.slice a3 dn c3)).heap[S + 1]? = some (.cells #[.string s.op, .int .i64 A, .int .i64 B, .string s.name, .slice a3 dn c3, .string s.k, .int .i64 (s.n : Int), .slice da nt ct] 28 (0, 0)) := heap_setCell_same _ _ _ _ _ _ HP3.out.2.2.1
                  have hx5 : (w4.setCell ⟨S + 1, 4, none⟩ (.slice a3 dn c3)).heap[S]? = some (.cells #[.string s.name, .string s.op, .slice aa na ca, .slice sa nz cz, .string s.k, .int .i64 (s.n : Int), .slice da nt ct] 42 (0, 0)) := by rw [heap_setCell_other _ _ _ _ (by show S ≠ S + 1; omega)]; exact HP3.out.2.2.2
                  have hRS : R ≤ S + 1 := by have := HDd.out.lt; have h2 := HSS.out; omega
                  have hk5 := Kq.set (B := R) (k := 4) HP3.out.2.2.1 (fun c e => by cases e) hRS (.slice a3 dn c3)
                  have hs5 := sl_kq HP3.out.1 HP3.out.2.1 hk5
                  have hp5 := Pe.kq HP3.out.2.1 hk5
                  have hw5 : S + 1 < (w4.setCell ⟨S + 1, 4, none⟩ (.slice a3 dn c3)).heap.size := (Array.getElem?_eq_some_iff.1 hn5).1
                  clear hk5
                  generalize w4.setCell ⟨S + 1, 4, none⟩ (.slice a3 dn c3) = w5 at *
                  have hd5 := HDd.out.below (w' := w5) (by rw [HSS.out]; exact h5S)
                  have hu5 : Qn R w w5 (.agg #[.string s.op, .int .i64 A, .int .i64 B, .string s.name, .slice a3 dn c3, .string s.k, .int .i64 (s.n : Int), .slice da nt ct]) { nod s (pA ks) (pB ks) with shape := d } := ⟨a3, c3, da, ct, by rw [← HAB.out.1, ← HAB.out.2]; simp only [nod]; rw [HAn.out, HDl.out, HNt.out]; rfl, hs5, hp5, HRr.out⟩
                  have HU5 : Hid (Qn R w w5 (.agg #[.string s.op, .int .i64 A, .int .i64 B, .string s.name, .slice a3 dn c3, .string s.k, .int .i64 (s.n : Int), .slice da nt ct]) { nod s (pA ks) (pB ks) with shape := d }) := hu5
                  have hd6 := hd5.below (bl_alloc (Below.refl _ _) (.cells #[.string s.name] 9))
                  have hnm6 := hd6.names
                  rw [HNN.out] at hnm6
                  have HD6 : Hid _ := hd6
                  have HD5 : Hid _ := hd5
                  have HN5 : Hid (w5.heap[S + 1]? = some (.cells #[.string s.op, .int .i64 A, .int .i64 B, .string s.name, .slice a3 dn c3, .string s.k, .int .i64 (s.n : Int), .slice da nt ct] 28 (0, 0))) := hn5
                  have x0 : w5.cell? ⟨S, 0, none⟩ = some (.string s.name) := by simp [World.cell?, hx5]
                  have hlt5 : R ≤ w5.heap.size := by have := hd5.lt; omega
                  have hcn := cell_one_at (x := .string s.name) (t := 9) (rfl : w5.heap.size = w5.heap.size)
                  clear hd5 hu5 hd6 hn5 hx5 hs5 hp5
                  go_wp2_with (first | (at_builtin; refine wpList_append_own _ rfl _ _ 26 rfl R 9 i9 _ 1 16 Tryz.underlying26 hi9 hz90 hz91 hz92 rfl (by decide) (.slice a2 ll c2) ll (txts σ.ns) rfl hnm6 ⟨w5.heap.size, 0, none⟩ 1 1 [.string s.name] rfl rfl hcn (by intro u hu; simp only [List.mem_singleton] at hu; subst hu; rfl) (by unfold maxLen; omega) (by omega) (by simp; omega) ?_))
                  intro v6 w6 ho6 hg6 _
                  have ho6' := ho6
                  rw [← HNN.out] at ho6'
                  have hd7 := HD6.out.named ho6' (by rw [← HNN.out] at hg6; exact hg6)
                  have hn6 : w6.heap[S + 1]? = some (.cells #[.string s.op, .int .i64 A, .int .i64 B, .string s.name, .slice a3 dn c3, .string s.k, .int .i64 (s.n : Int), .slice da nt ct] 28 (0, 0)) := grown_other hnm6 hg6 (kd_below (bl_alloc (Below.refl _ _) _) HN5.out) (fun c e => by cases e)
                  have hu6 := Qn.kq HU5.out ((Kq.of (bl_alloc (Below.refl _ _) (.cells #[.string s.name] 9))).trans (Kq.grown hnm6 (by decide) hg6))
                  obtain ⟨a6, c6, rfl⟩ := own_slice1 ho6
                  have HD7 : Hid (Dd w6 w R (.slice a1 σ.l.length c1) (.slice a6 (ll + 1) c6) us { σ with ns := σ.ns ++ [s.name] }) := hd7
                  have HU6 : Hid (Qn R w w6 (.agg #[.string s.op, .int .i64 A, .int .i64 B, .string s.name, .slice a3 dn c3, .string s.k, .int .i64 (s.n : Int), .slice da nt ct]) { nod s (pA ks) (pB ks) with shape := d }) := hu6
                  have n0 : w6.cell? ⟨S + 1, 0, none⟩ = some (.string s.op) := by simp [World.cell?, hn6]
                  have n1 : w6.cell? ⟨S + 1, 1, none⟩ = some (.int .i64 A) := by simp [World.cell?, hn6]
                  have n2 : w6.cell? ⟨S + 1, 2, none⟩ = some (.int .i64 B) := by simp [World.cell?, hn6]
                  have n3 : w6.cell? ⟨S + 1, 3, none⟩ = some (.string s.name) := by simp [World.cell?, hn6]
                  have n4 : w6.cell? ⟨S + 1, 4, none⟩ = some (.slice a3 dn c3) := by simp [World.cell?, hn6]
                  have n5 : w6.cell? ⟨S + 1, 5, none⟩ = some (.string s.k) := by simp [World.cell?, hn6]
                  have n6 : w6.cell? ⟨S + 1, 6, none⟩ = some (.int .i64 (s.n : Int)) := by simp [World.cell?, hn6]
                  have n7 : w6.cell? ⟨S + 1, 7, none⟩ = some (.slice da nt ct) := by simp [World.cell?, hn6]
                  have d0 := hd7.c0
                  rw [HLL.out] at d0
                  have hd8 := hd7.below (bl_alloc (Below.refl _ _) (.cells #[.string s.op, .int .i64 A, .int .i64 B, .string s.name, .slice a3 dn c3, .string s.k, .int .i64 (s.n : Int), .slice da nt ct] 28))
                  have hno := hd8.nodes
                  have hlt6 : R ≤ w6.heap.size := by have := hd7.lt; omega
                  simp only [HLL.out] at hno
                  have hcn8 := cells_at (xs := [.string s.op, .int .i64 A, .int .i64 B, .string s.name, .slice a3 dn c3, .string s.k, .int .i64 (s.n : Int), .slice da nt ct]) (t := 28) (rfl : w6.heap.size = w6.heap.size)
                  have HD8 : Hid _ := hd8
                  clear ho6 ho6' hg6 hd7 hn6 hu6 hnm6 hcn x0 hd8
                  go_upto_region 34 with fail
                  go_wp2_with (first | (at_builtin; refine wpList_append_own _ rfl _ _ 22 rfl R 28 i28 _ 8 120 Tryz.underlying22 hi28 hz80 hz81 hz82 rfl (by decide) (.slice a1 ll c1) ll (nflat us) rfl hno ⟨w6.heap.size, 0, none⟩ 1 1 [.string s.op, .int .i64 A, .int .i64 B, .string s.name, .slice a3 dn c3, .string s.k, .int .i64 (s.n : Int), .slice da nt ct] rfl rfl hcn8 (by intro u hu; simp only [List.mem_cons, List.not_mem_nil, or_false] at hu; rcases hu with rfl | rfl | rfl | rfl | rfl | rfl | rfl | rfl <;> rfl) (by unfold maxLen; omega) (by omega) (by simp; omega) ?_))
                  intro v7 w7 ho7 hg7 _
                  obtain ⟨a7, c7, rfl⟩ := own_slice8 ho7
                  have hb7 := grown_other hno hg7 HD8.out.box (fun c e => by cases e)
                  have b0 : w7.cell? ⟨R + 1, 0, none⟩ = some (.slice a1 σ.l.length c1) := by simp [World.cell?, hb7]
                  have bf : ∀ i, w7.frozen? ⟨R + 1, i, none⟩ = false := fun i => by simp [World.frozen?, hb7]
                  have HEq : Hid (rs = bld { σ with l := σ.l ++ [{ nod s (pA ks) (pB ks) with shape := d }], ns := σ.ns ++ [s.name] } (k + 1) (L.drop (k + 1)) ∧ Ok { σ with l := σ.l ++ [{ nod s (pA ks) (pB ks) with shape := d }], ns := σ.ns ++ [s.name] }) := by
                    have h1 := stp_yes HOp.out (Int.not_le.2 HNm.out) HKf.out HLx.out HSo.out
                    refine ⟨?_, HOn.out _ h1⟩
                    rw [HSt.out, h1]
                  have hd9 : Dd (w7.setCell ⟨R + 1, 0, none⟩ (.slice a7 (ll + 1) c7)) w R (.slice a7 (ll + 1) c7) (.slice a6 (ll + 1) c6) (us ++ [.agg #[.string s.op, .int .i64 A, .int .i64 B, .string s.name, .slice a3 dn c3, .string s.k, .int .i64 (s.n : Int), .slice da nt ct]]) { σ with l := σ.l ++ [{ nod s (pA ks) (pB ks) with shape := d }], ns := σ.ns ++ [s.name] } := by
                    refine HD8.out.noded (Qn.kq HU6.out (Kq.of (bl_alloc (Below.refl _ _) (.cells #[.string s.op, .int .i64 A, .int .i64 B, .string s.name, .slice a3 dn c3, .string s.k, .int .i64 (s.n : Int), .slice da nt ct] 28)))) ?_ ?_
                    · show w7.ownsRow R 28 8 (.slice a7 (ll + 1) c7) (σ.l.length + 1) _
                      rw [HLL.out]; exact ho7
                    · rw [HLL.out]; exact hg7
                  have HD9 : Hid _ := hd9
                  clear ho7 hg7 hno hcn8 hb7 hd9 n0 n1 n2 n3 n4 n5 n6 n7 d0
                  go_wp2_with fail
                  go_roundw
                  case rel => exact ⟨k + 1, _, _, _, by omega, by go_num, HEq.out.1, HEq.out.2, HD9.out⟩
                  case measure => simp [intOf]; omega
            | false =>
              have gp := isw_b hpa
              cases hin : isw s.op lInput with
              | true =>
                have gi := isw_b hin
                have hnmd : nmd s.op = true := by unfold nmd; rw [hpa, hin]; rfl
                clear hpa hin
                have hn3 : wr.cell? ⟨S + 1, 3, none⟩ = some (.string ⟨#[]⟩) := by simp [World.cell?, hn]
                have hnf : ∀ i, wr.frozen? ⟨S + 1, i, none⟩ = false := fun i => by simp [World.frozen?, hn]
                clear hn
                go_upto_region 27 with fail
                clear q0 q1 q2 q3 q4 q5 q6 hn3 hnf
                have hbn : Below (S + 1) ((wo.alloc (.cells #[.string s.name, .string s.op, .slice aa na ca, .slice sa nz cz, .string s.k, .int .i64 (s.n : Int), .slice da nt ct] 42)).alloc (.cells #[.string s.op, .int .i64 0, .int .i64 0, .string ⟨#[]⟩, .slice sa nz cz, .string s.k, .int .i64 (s.n : Int), .slice da nt ct] 28)) (wr.setCell ⟨S + 1, 3, none⟩ (.string s.name)) := HBq.out.setCell (Nat.le_refl _) _
                have hn : (wr.setCell ⟨S + 1, 3, none⟩ (.string s.name)).heap[S + 1]? = some (.cells #[.string s.op, .int .i64 A, .int .i64 B, .string s.name, .slice sa nz cz, .string s.k, .int .i64 (s.n : Int), .slice da nt ct] 28 (0, 0)) := heap_setCell_same _ _ _ _ _ _ HNq.out
                generalize hwn : (wr.setCell ⟨S + 1, 3, none⟩ (.string s.name)) = wn at hbn hn ⊢
                clear hwn
                obtain ⟨hSx, hSl⟩ := HX2.out wn hbn
                have HSn : Hid (Below S wo wn) := hSl
                have HSx : Hid (wn.heap[S]? = some (.cells #[.string s.name, .string s.op, .slice aa na ca, .slice sa nz cz, .string s.k, .int .i64 (s.n : Int), .slice da nt ct] 42 (0, 0))) := hSx
                have HNn : Hid _ := hn
                have hdn := HDd.out.below (w' := wn) (by rw [HSS.out]; exact hSl)
                have d0 := hdn.c0
                rw [HLL.out] at d0
                have HDn : Hid (Dd wn w R (.slice a1 σ.l.length c1) (.slice a2 σ.ns.length c2) us σ) := hdn
                clear hSx hSl hdn hbn
                by_cases h2 : ll = 200
                · have HEr : Hid (rs = .error (k, 8)) := by
                    rw [HSt.out, stp_8 HOp.out (Int.not_le.2 HNm.out) HKf.out (by rw [HLL.out]; exact h2)]
                    exact rfl
                  have h21 : ((ll : Int) == 200) = true := by simp; omega
                  clear hn
                  have hdz := HDd.out.below (w' := wn) (by rw [HSS.out]; exact HSn.out)
                  have z0 := hdz.z0
                  have z1 := hdz.z1
                  have zf := hdz.zf
                  have HLw : Hid (Below w.heap.size w wn) := hdz.low'
                  clear hdz
                  go_wp2
                  refine bodyPost_ret (v := .tuple #[.agg #[.slice none 0 0, .int .i64 0], .int .i64 (k : Int), .int .i64 8]) (by simp [results, Tryz.results15, go_sem, z0, z1, zf]) rfl ⟨by rw [HEr.out]; rfl, (HLw.out.setCell (by rw [HRR.out]; exact Nat.le_refl _) _).setCell (by rw [HRR.out]; exact Nat.le_refl _) _⟩
                · have h21 : ((ll : Int) == 200) = false := by simp; omega
                  have n0 : wn.cell? ⟨S + 1, 0, none⟩ = some (.string s.op) := by simp [World.cell?, hn]
                  have n1 : wn.cell? ⟨S + 1, 1, none⟩ = some (.int .i64 A) := by simp [World.cell?, hn]
                  have n2 : wn.cell? ⟨S + 1, 2, none⟩ = some (.int .i64 B) := by simp [World.cell?, hn]
                  have n3 : wn.cell? ⟨S + 1, 3, none⟩ = some (.string s.name) := by simp [World.cell?, hn]
                  have n4 : wn.cell? ⟨S + 1, 4, none⟩ = some (.slice sa nz cz) := by simp [World.cell?, hn]
                  have n5 : wn.cell? ⟨S + 1, 5, none⟩ = some (.string s.k) := by simp [World.cell?, hn]
                  have n6 : wn.cell? ⟨S + 1, 6, none⟩ = some (.int .i64 (s.n : Int)) := by simp [World.cell?, hn]
                  have n7 : wn.cell? ⟨S + 1, 7, none⟩ = some (.slice da nt ct) := by simp [World.cell?, hn]
                  have HSc := HSh.out wn HSn.out A B
                  have HAn : Hid (nmd s.op = true) := hnmd
                  rw [hnmd, if_pos rfl] at HSc
                  obtain ⟨so, hso⟩ : ∃ z, shp σ.l (nod s A B) = z := ⟨_, rfl⟩
                  rw [hso] at HSc
                  have HSo : Hid (shp σ.l (nod s (pA ks) (pB ks)) = so) := by rw [← HAB.out.1, ← HAB.out.2]; exact hso
                  have HLx : Hid (¬ σ.l.length = 200) := by rw [HLL.out]; exact h2
                  have HNl : Hid (S + 1 < wn.heap.size) := (Array.getElem?_eq_some_iff.1 hn).1
                  clear hso hn
                  cases so with
                  | none =>
                    have HEr : Hid (rs = .error (k, 4)) := by
                      rw [HSt.out, stp_4 HOp.out (Int.not_le.2 HNm.out) HKf.out HLx.out HSo.out]
                      exact rfl
                    go_upto_region 29 with fail
                    go_wp2_with fail
                    refine HSc.mono ?_
                    rintro e w4 ⟨⟨a3, n3', c3, rfl⟩, h4⟩
                    have HS4 : Hid (Below S wo w4) := HSn.out.trans (h4.mono (by have := HNl.out; omega))
                    clear h4 HSc n0 n1 n2 n3 n4 n5 n6 n7 d0
                    have hdz := HDd.out.below (w' := w4) (by rw [HSS.out]; exact HS4.out)
                    have z0 := hdz.z0
                    have z1 := hdz.z1
                    have zf := hdz.zf
                    have HLw : Hid (Below w.heap.size w w4) := hdz.low'
                    clear hdz
                    go_wp2
                    refine bodyPost_ret (v := .tuple #[.agg #[.slice none 0 0, .int .i64 0], .int .i64 (k : Int), .int .i64 4]) (by simp [results, Tryz.results15, go_sem, z0, z1, zf]) rfl ⟨by rw [HEr.out]; rfl, (HLw.out.setCell (by rw [HRR.out]; exact Nat.le_refl _) _).setCell (by rw [HRR.out]; exact Nat.le_refl _) _⟩
                  | some d =>
                    go_upto_region 29 with fail
                    go_wp2_with fail
                    refine HSc.mono ?_
                    rintro e w4 ⟨⟨a3, c3, rfl, hs3, hp3⟩, h4⟩
                    have HS4 : Hid (Below S wo w4) := HSn.out.trans (h4.mono (by have := HNl.out; omega))
                    have hn4 := kd_below h4 HNn.out
                    have hx4 := kd_below h4 HSx.out
                    obtain ⟨dn, hdn⟩ : ∃ m, d.length = m := ⟨_, rfl⟩
                    have HDl : Hid (d.length = dn) := hdn
                    simp only [hdn]
                    have hn44 : w4.cell? ⟨S + 1, 4, none⟩ = some (.slice sa nz cz) := by simp [World.cell?, hn4]
                    have hnf4 : ∀ i, w4.frozen? ⟨S + 1, i, none⟩ = false := fun i => by simp [World.frozen?, hn4]
                    have HP3 : Hid (Sp.Sl w4 a3 d ∧ Pe R w4 a3 d ∧ w4.heap[S + 1]? = some (.cells #[.string s.op, .int .i64 A, .int .i64 B, .string s.name, .slice sa nz cz, .string s.k, .int .i64 (s.n : Int), .slice da nt ct] 28 (0, 0)) ∧ w4.heap[S]? = some (.cells #[.string s.name, .string s.op, .slice aa na ca, .slice sa nz cz, .string s.k, .int .i64 (s.n : Int), .slice da nt ct] 42 (0, 0))) := ⟨hs3, hp3, hn4, hx4⟩
                    clear hs3 hp3 h4 hn4 hx4 hdn HSc n0 n1 n2 n3 n4 n5 n6 n7 d0
                    go_upto_region 33 with fail
                    clear hn44 hnf4
                    have h5S : Below S wo (w4.setCell ⟨S + 1, 4, none⟩ (.slice a3 dn c3)) := HS4.out.setCell (Nat.le_succ S) _
                    have hn5 : (w4.setCell ⟨S + 1, 4, none⟩ (.slice a3 dn c3)).heap[S + 1]? = some (.cells #[.string s.op, .int .i64 A, .int .i64 B, .string s.name, .slice a3 dn c3, .string s.k, .int .i64 (s.n : Int), .slice da nt ct] 28 (0, 0)) := heap_setCell_same _ _ _ _ _ _ HP3.out.2.2.1
                    have hx5 : (w4.setCell ⟨S + 1, 4, none⟩ (.slice a3 dn c3)).heap[S]? = some (.cells #[.string s.name, .string s.op, .slice aa na ca, .slice sa nz cz, .string s.k, .int .i64 (s.n : Int), .slice da nt ct] 42 (0, 0)) := by rw [heap_setCell_other _ _ _ _ (by show S ≠ S + 1; omega)]; exact HP3.out.2.2.2
                    have hRS : R ≤ S + 1 := by have := HDd.out.lt; have h2 := HSS.out; omega
                    have hk5 := Kq.set (B := R) (k := 4) HP3.out.2.2.1 (fun c e => by cases e) hRS (.slice a3 dn c3)
                    have hs5 := sl_kq HP3.out.1 HP3.out.2.1 hk5
                    have hp5 := Pe.kq HP3.out.2.1 hk5
                    have hw5 : S + 1 < (w4.setCell ⟨S + 1, 4, none⟩ (.slice a3 dn c3)).heap.size := (Array.getElem?_eq_some_iff.1 hn5).1
                    clear hk5
                    generalize w4.setCell ⟨S + 1, 4, none⟩ (.slice a3 dn c3) = w5 at *
                    have hd5 := HDd.out.below (w' := w5) (by rw [HSS.out]; exact h5S)
                    have hu5 : Qn R w w5 (.agg #[.string s.op, .int .i64 A, .int .i64 B, .string s.name, .slice a3 dn c3, .string s.k, .int .i64 (s.n : Int), .slice da nt ct]) { nod s (pA ks) (pB ks) with shape := d } := ⟨a3, c3, da, ct, by rw [← HAB.out.1, ← HAB.out.2]; simp only [nod]; rw [HAn.out, HDl.out, HNt.out]; rfl, hs5, hp5, HRr.out⟩
                    have HU5 : Hid (Qn R w w5 (.agg #[.string s.op, .int .i64 A, .int .i64 B, .string s.name, .slice a3 dn c3, .string s.k, .int .i64 (s.n : Int), .slice da nt ct]) { nod s (pA ks) (pB ks) with shape := d }) := hu5
                    have hd6 := hd5.below (bl_alloc (Below.refl _ _) (.cells #[.string s.name] 9))
                    have hnm6 := hd6.names
                    rw [HNN.out] at hnm6
                    have HD6 : Hid _ := hd6
                    have HD5 : Hid _ := hd5
                    have HN5 : Hid (w5.heap[S + 1]? = some (.cells #[.string s.op, .int .i64 A, .int .i64 B, .string s.name, .slice a3 dn c3, .string s.k, .int .i64 (s.n : Int), .slice da nt ct] 28 (0, 0))) := hn5
                    have x0 : w5.cell? ⟨S, 0, none⟩ = some (.string s.name) := by simp [World.cell?, hx5]
                    have hlt5 : R ≤ w5.heap.size := by have := hd5.lt; omega
                    have hcn := cell_one_at (x := .string s.name) (t := 9) (rfl : w5.heap.size = w5.heap.size)
                    clear hd5 hu5 hd6 hn5 hx5 hs5 hp5
                    go_wp2_with (first | (at_builtin; refine wpList_append_own _ rfl _ _ 26 rfl R 9 i9 _ 1 16 Tryz.underlying26 hi9 hz90 hz91 hz92 rfl (by decide) (.slice a2 ll c2) ll (txts σ.ns) rfl hnm6 ⟨w5.heap.size, 0, none⟩ 1 1 [.string s.name] rfl rfl hcn (by intro u hu; simp only [List.mem_singleton] at hu; subst hu; rfl) (by unfold maxLen; omega) (by omega) (by simp; omega) ?_))
                    intro v6 w6 ho6 hg6 _
                    have ho6' := ho6
                    rw [← HNN.out] at ho6'
                    have hd7 := HD6.out.named ho6' (by rw [← HNN.out] at hg6; exact hg6)
                    have hn6 : w6.heap[S + 1]? = some (.cells #[.string s.op, .int .i64 A, .int .i64 B, .string s.name, .slice a3 dn c3, .string s.k, .int .i64 (s.n : Int), .slice da nt ct] 28 (0, 0)) := grown_other hnm6 hg6 (kd_below (bl_alloc (Below.refl _ _) _) HN5.out) (fun c e => by cases e)
                    have hu6 := Qn.kq HU5.out ((Kq.of (bl_alloc (Below.refl _ _) (.cells #[.string s.name] 9))).trans (Kq.grown hnm6 (by decide) hg6))
                    obtain ⟨a6, c6, rfl⟩ := own_slice1 ho6
                    have HD7 : Hid (Dd w6 w R (.slice a1 σ.l.length c1) (.slice a6 (ll + 1) c6) us { σ with ns := σ.ns ++ [s.name] }) := hd7
                    have HU6 : Hid (Qn R w w6 (.agg #[.string s.op, .int .i64 A, .int .i64 B, .string s.name, .slice a3 dn c3, .string s.k, .int .i64 (s.n : Int), .slice da nt ct]) { nod s (pA ks) (pB ks) with shape := d }) := hu6
                    have n0 : w6.cell? ⟨S + 1, 0, none⟩ = some (.string s.op) := by simp [World.cell?, hn6]
                    have n1 : w6.cell? ⟨S + 1, 1, none⟩ = some (.int .i64 A) := by simp [World.cell?, hn6]
                    have n2 : w6.cell? ⟨S + 1, 2, none⟩ = some (.int .i64 B) := by simp [World.cell?, hn6]
                    have n3 : w6.cell? ⟨S + 1, 3, none⟩ = some (.string s.name) := by simp [World.cell?, hn6]
                    have n4 : w6.cell? ⟨S + 1, 4, none⟩ = some (.slice a3 dn c3) := by simp [World.cell?, hn6]
                    have n5 : w6.cell? ⟨S + 1, 5, none⟩ = some (.string s.k) := by simp [World.cell?, hn6]
                    have n6 : w6.cell? ⟨S + 1, 6, none⟩ = some (.int .i64 (s.n : Int)) := by simp [World.cell?, hn6]
                    have n7 : w6.cell? ⟨S + 1, 7, none⟩ = some (.slice da nt ct) := by simp [World.cell?, hn6]
                    have d0 := hd7.c0
                    rw [HLL.out] at d0
                    have hd8 := hd7.below (bl_alloc (Below.refl _ _) (.cells #[.string s.op, .int .i64 A, .int .i64 B, .string s.name, .slice a3 dn c3, .string s.k, .int .i64 (s.n : Int), .slice da nt ct] 28))
                    have hno := hd8.nodes
                    have hlt6 : R ≤ w6.heap.size := by have := hd7.lt; omega
                    simp only [HLL.out] at hno
                    have hcn8 := cells_at (xs := [.string s.op, .int .i64 A, .int .i64 B, .string s.name, .slice a3 dn c3, .string s.k, .int .i64 (s.n : Int), .slice da nt ct]) (t := 28) (rfl : w6.heap.size = w6.heap.size)
                    have HD8 : Hid _ := hd8
                    clear ho6 ho6' hg6 hd7 hn6 hu6 hnm6 hcn x0 hd8
                    go_upto_region 34 with fail
                    go_wp2_with (first | (at_builtin; refine wpList_append_own _ rfl _ _ 22 rfl R 28 i28 _ 8 120 Tryz.underlying22 hi28 hz80 hz81 hz82 rfl (by decide) (.slice a1 ll c1) ll (nflat us) rfl hno ⟨w6.heap.size, 0, none⟩ 1 1 [.string s.op, .int .i64 A, .int .i64 B, .string s.name, .slice a3 dn c3, .string s.k, .int .i64 (s.n : Int), .slice da nt ct] rfl rfl hcn8 (by intro u hu; simp only [List.mem_cons, List.not_mem_nil, or_false] at hu; rcases hu with rfl | rfl | rfl | rfl | rfl | rfl | rfl | rfl <;> rfl) (by unfold maxLen; omega) (by omega) (by simp; omega) ?_))
                    intro v7 w7 ho7 hg7 _
                    obtain ⟨a7, c7, rfl⟩ := own_slice8 ho7
                    have hb7 := grown_other hno hg7 HD8.out.box (fun c e => by cases e)
                    have b0 : w7.cell? ⟨R + 1, 0, none⟩ = some (.slice a1 σ.l.length c1) := by simp [World.cell?, hb7]
                    have bf : ∀ i, w7.frozen? ⟨R + 1, i, none⟩ = false := fun i => by simp [World.frozen?, hb7]
                    have HEq : Hid (rs = bld { σ with l := σ.l ++ [{ nod s (pA ks) (pB ks) with shape := d }], ns := σ.ns ++ [s.name] } (k + 1) (L.drop (k + 1)) ∧ Ok { σ with l := σ.l ++ [{ nod s (pA ks) (pB ks) with shape := d }], ns := σ.ns ++ [s.name] }) := by
                      have h1 := stp_yes HOp.out (Int.not_le.2 HNm.out) HKf.out HLx.out HSo.out
                      refine ⟨?_, HOn.out _ h1⟩
                      rw [HSt.out, h1]
                    have hd9 : Dd (w7.setCell ⟨R + 1, 0, none⟩ (.slice a7 (ll + 1) c7)) w R (.slice a7 (ll + 1) c7) (.slice a6 (ll + 1) c6) (us ++ [.agg #[.string s.op, .int .i64 A, .int .i64 B, .string s.name, .slice a3 dn c3, .string s.k, .int .i64 (s.n : Int), .slice da nt ct]]) { σ with l := σ.l ++ [{ nod s (pA ks) (pB ks) with shape := d }], ns := σ.ns ++ [s.name] } := by
                      refine HD8.out.noded (Qn.kq HU6.out (Kq.of (bl_alloc (Below.refl _ _) (.cells #[.string s.op, .int .i64 A, .int .i64 B, .string s.name, .slice a3 dn c3, .string s.k, .int .i64 (s.n : Int), .slice da nt ct] 28)))) ?_ ?_
                      · show w7.ownsRow R 28 8 (.slice a7 (ll + 1) c7) (σ.l.length + 1) _
                        rw [HLL.out]; exact ho7
                      · rw [HLL.out]; exact hg7
                    have HD9 : Hid _ := hd9
                    clear ho7 hg7 hno hcn8 hb7 hd9 n0 n1 n2 n3 n4 n5 n6 n7 d0
                    go_wp2_with fail
                    go_roundw
                    case rel => exact ⟨k + 1, _, _, _, by omega, by go_num, HEq.out.1, HEq.out.2, HD9.out⟩
                    case measure => simp [intOf]; omega
              | false =>
                have gi := isw_b hin
                have hnmd : nmd s.op = false := by unfold nmd; rw [hpa, hin]; rfl
                clear hpa hin
                clear hn
                go_upto_region 27 with fail
                clear q0 q1 q2 q3 q4 q5 q6
                have hbn : Below (S + 1) ((wo.alloc (.cells #[.string s.name, .string s.op, .slice aa na ca, .slice sa nz cz, .string s.k, .int .i64 (s.n : Int), .slice da nt ct] 42)).alloc (.cells #[.string s.op, .int .i64 0, .int .i64 0, .string ⟨#[]⟩, .slice sa nz cz, .string s.k, .int .i64 (s.n : Int), .slice da nt ct] 28)) wr := HBq.out
                have hn : wr.heap[S + 1]? = some (.cells #[.string s.op, .int .i64 A, .int .i64 B, .string ⟨#[]⟩, .slice sa nz cz, .string s.k, .int .i64 (s.n : Int), .slice da nt ct] 28 (0, 0)) := HNq.out
                obtain ⟨wn, hwn⟩ : ∃ z, wr = z := ⟨_, rfl⟩
                subst hwn
                obtain ⟨hSx, hSl⟩ := HX2.out wr hbn
                have HSn : Hid (Below S wo wr) := hSl
                have HSx : Hid (wr.heap[S]? = some (.cells #[.string s.name, .string s.op, .slice aa na ca, .slice sa nz cz, .string s.k, .int .i64 (s.n : Int), .slice da nt ct] 42 (0, 0))) := hSx
                have HNn : Hid _ := hn
                have hdn := HDd.out.below (w' := wr) (by rw [HSS.out]; exact hSl)
                have d0 := hdn.c0
                rw [HLL.out] at d0
                have HDn : Hid (Dd wr w R (.slice a1 σ.l.length c1) (.slice a2 σ.ns.length c2) us σ) := hdn
                clear hSx hSl hdn hbn
                by_cases h2 : ll = 200
                · have HEr : Hid (rs = .error (k, 8)) := by
                    rw [HSt.out, stp_8 HOp.out (Int.not_le.2 HNm.out) HKf.out (by rw [HLL.out]; exact h2)]
                    exact rfl
                  have h21 : ((ll : Int) == 200) = true := by simp; omega
                  clear hn
                  have hdz := HDd.out.below (w' := wr) (by rw [HSS.out]; exact HSn.out)
                  have z0 := hdz.z0
                  have z1 := hdz.z1
                  have zf := hdz.zf
                  have HLw : Hid (Below w.heap.size w wr) := hdz.low'
                  clear hdz
                  go_wp2
                  refine bodyPost_ret (v := .tuple #[.agg #[.slice none 0 0, .int .i64 0], .int .i64 (k : Int), .int .i64 8]) (by simp [results, Tryz.results15, go_sem, z0, z1, zf]) rfl ⟨by rw [HEr.out]; rfl, (HLw.out.setCell (by rw [HRR.out]; exact Nat.le_refl _) _).setCell (by rw [HRR.out]; exact Nat.le_refl _) _⟩
                · have h21 : ((ll : Int) == 200) = false := by simp; omega
                  have n0 : wr.cell? ⟨S + 1, 0, none⟩ = some (.string s.op) := by simp [World.cell?, hn]
                  have n1 : wr.cell? ⟨S + 1, 1, none⟩ = some (.int .i64 A) := by simp [World.cell?, hn]
                  have n2 : wr.cell? ⟨S + 1, 2, none⟩ = some (.int .i64 B) := by simp [World.cell?, hn]
                  have n3 : wr.cell? ⟨S + 1, 3, none⟩ = some (.string ⟨#[]⟩) := by simp [World.cell?, hn]
                  have n4 : wr.cell? ⟨S + 1, 4, none⟩ = some (.slice sa nz cz) := by simp [World.cell?, hn]
                  have n5 : wr.cell? ⟨S + 1, 5, none⟩ = some (.string s.k) := by simp [World.cell?, hn]
                  have n6 : wr.cell? ⟨S + 1, 6, none⟩ = some (.int .i64 (s.n : Int)) := by simp [World.cell?, hn]
                  have n7 : wr.cell? ⟨S + 1, 7, none⟩ = some (.slice da nt ct) := by simp [World.cell?, hn]
                  have HSc := HSh.out wr HSn.out A B
                  have HAn : Hid (nmd s.op = false) := hnmd
                  rw [hnmd, if_neg (by decide)] at HSc
                  obtain ⟨so, hso⟩ : ∃ z, shp σ.l (nod s A B) = z := ⟨_, rfl⟩
                  rw [hso] at HSc
                  have HSo : Hid (shp σ.l (nod s (pA ks) (pB ks)) = so) := by rw [← HAB.out.1, ← HAB.out.2]; exact hso
                  have HLx : Hid (¬ σ.l.length = 200) := by rw [HLL.out]; exact h2
                  have HNl : Hid (S + 1 < wr.heap.size) := (Array.getElem?_eq_some_iff.1 hn).1
                  clear hso hn
                  cases so with
                  | none =>
                    have HEr : Hid (rs = .error (k, 4)) := by
                      rw [HSt.out, stp_4 HOp.out (Int.not_le.2 HNm.out) HKf.out HLx.out HSo.out]
                      exact rfl
                    go_upto_region 29 with fail
                    go_wp2_with fail
                    refine HSc.mono ?_
                    rintro e w4 ⟨⟨a3, n3', c3, rfl⟩, h4⟩
                    have HS4 : Hid (Below S wo w4) := HSn.out.trans (h4.mono (by have := HNl.out; omega))
                    clear h4 HSc n0 n1 n2 n3 n4 n5 n6 n7 d0
                    have hdz := HDd.out.below (w' := w4) (by rw [HSS.out]; exact HS4.out)
                    have z0 := hdz.z0
                    have z1 := hdz.z1
                    have zf := hdz.zf
                    have HLw : Hid (Below w.heap.size w w4) := hdz.low'
                    clear hdz
                    go_wp2
                    refine bodyPost_ret (v := .tuple #[.agg #[.slice none 0 0, .int .i64 0], .int .i64 (k : Int), .int .i64 4]) (by simp [results, Tryz.results15, go_sem, z0, z1, zf]) rfl ⟨by rw [HEr.out]; rfl, (HLw.out.setCell (by rw [HRR.out]; exact Nat.le_refl _) _).setCell (by rw [HRR.out]; exact Nat.le_refl _) _⟩
                  | some d =>
                    go_upto_region 29 with fail
                    go_wp2_with fail
                    refine HSc.mono ?_
                    rintro e w4 ⟨⟨a3, c3, rfl, hs3, hp3⟩, h4⟩
                    have HS4 : Hid (Below S wo w4) := HSn.out.trans (h4.mono (by have := HNl.out; omega))
                    have hn4 := kd_below h4 HNn.out
                    have hx4 := kd_below h4 HSx.out
                    obtain ⟨dn, hdn⟩ : ∃ m, d.length = m := ⟨_, rfl⟩
                    have HDl : Hid (d.length = dn) := hdn
                    simp only [hdn]
                    have hn44 : w4.cell? ⟨S + 1, 4, none⟩ = some (.slice sa nz cz) := by simp [World.cell?, hn4]
                    have hnf4 : ∀ i, w4.frozen? ⟨S + 1, i, none⟩ = false := fun i => by simp [World.frozen?, hn4]
                    have HP3 : Hid (Sp.Sl w4 a3 d ∧ Pe R w4 a3 d ∧ w4.heap[S + 1]? = some (.cells #[.string s.op, .int .i64 A, .int .i64 B, .string ⟨#[]⟩, .slice sa nz cz, .string s.k, .int .i64 (s.n : Int), .slice da nt ct] 28 (0, 0)) ∧ w4.heap[S]? = some (.cells #[.string s.name, .string s.op, .slice aa na ca, .slice sa nz cz, .string s.k, .int .i64 (s.n : Int), .slice da nt ct] 42 (0, 0))) := ⟨hs3, hp3, hn4, hx4⟩
                    clear hs3 hp3 h4 hn4 hx4 hdn HSc n0 n1 n2 n3 n4 n5 n6 n7 d0
                    go_upto_region 33 with fail
                    clear hn44 hnf4
                    have h5S : Below S wo (w4.setCell ⟨S + 1, 4, none⟩ (.slice a3 dn c3)) := HS4.out.setCell (Nat.le_succ S) _
                    have hn5 : (w4.setCell ⟨S + 1, 4, none⟩ (.slice a3 dn c3)).heap[S + 1]? = some (.cells #[.string s.op, .int .i64 A, .int .i64 B, .string ⟨#[]⟩, .slice a3 dn c3, .string s.k, .int .i64 (s.n : Int), .slice da nt ct] 28 (0, 0)) := heap_setCell_same _ _ _ _ _ _ HP3.out.2.2.1
                    have hx5 : (w4.setCell ⟨S + 1, 4, none⟩ (.slice a3 dn c3)).heap[S]? = some (.cells #[.string s.name, .string s.op, .slice aa na ca, .slice sa nz cz, .string s.k, .int .i64 (s.n : Int), .slice da nt ct] 42 (0, 0)) := by rw [heap_setCell_other _ _ _ _ (by show S ≠ S + 1; omega)]; exact HP3.out.2.2.2
                    have hRS : R ≤ S + 1 := by have := HDd.out.lt; have h2 := HSS.out; omega
                    have hk5 := Kq.set (B := R) (k := 4) HP3.out.2.2.1 (fun c e => by cases e) hRS (.slice a3 dn c3)
                    have hs5 := sl_kq HP3.out.1 HP3.out.2.1 hk5
                    have hp5 := Pe.kq HP3.out.2.1 hk5
                    have hw5 : S + 1 < (w4.setCell ⟨S + 1, 4, none⟩ (.slice a3 dn c3)).heap.size := (Array.getElem?_eq_some_iff.1 hn5).1
                    clear hk5
                    generalize w4.setCell ⟨S + 1, 4, none⟩ (.slice a3 dn c3) = w5 at *
                    have hd5 := HDd.out.below (w' := w5) (by rw [HSS.out]; exact h5S)
                    have hu5 : Qn R w w5 (.agg #[.string s.op, .int .i64 A, .int .i64 B, .string ⟨#[]⟩, .slice a3 dn c3, .string s.k, .int .i64 (s.n : Int), .slice da nt ct]) { nod s (pA ks) (pB ks) with shape := d } := ⟨a3, c3, da, ct, by rw [← HAB.out.1, ← HAB.out.2]; simp only [nod]; rw [HAn.out, HDl.out, HNt.out]; rfl, hs5, hp5, HRr.out⟩
                    have HU5 : Hid (Qn R w w5 (.agg #[.string s.op, .int .i64 A, .int .i64 B, .string ⟨#[]⟩, .slice a3 dn c3, .string s.k, .int .i64 (s.n : Int), .slice da nt ct]) { nod s (pA ks) (pB ks) with shape := d }) := hu5
                    have hd6 := hd5.below (bl_alloc (Below.refl _ _) (.cells #[.string s.name] 9))
                    have hnm6 := hd6.names
                    rw [HNN.out] at hnm6
                    have HD6 : Hid _ := hd6
                    have HD5 : Hid _ := hd5
                    have HN5 : Hid (w5.heap[S + 1]? = some (.cells #[.string s.op, .int .i64 A, .int .i64 B, .string ⟨#[]⟩, .slice a3 dn c3, .string s.k, .int .i64 (s.n : Int), .slice da nt ct] 28 (0, 0))) := hn5
                    have x0 : w5.cell? ⟨S, 0, none⟩ = some (.string s.name) := by simp [World.cell?, hx5]
                    have hlt5 : R ≤ w5.heap.size := by have := hd5.lt; omega
                    have hcn := cell_one_at (x := .string s.name) (t := 9) (rfl : w5.heap.size = w5.heap.size)
                    clear hd5 hu5 hd6 hn5 hx5 hs5 hp5
                    go_wp2_with (first | (at_builtin; refine wpList_append_own _ rfl _ _ 26 rfl R 9 i9 _ 1 16 Tryz.underlying26 hi9 hz90 hz91 hz92 rfl (by decide) (.slice a2 ll c2) ll (txts σ.ns) rfl hnm6 ⟨w5.heap.size, 0, none⟩ 1 1 [.string s.name] rfl rfl hcn (by intro u hu; simp only [List.mem_singleton] at hu; subst hu; rfl) (by unfold maxLen; omega) (by omega) (by simp; omega) ?_))
                    intro v6 w6 ho6 hg6 _
                    have ho6' := ho6
                    rw [← HNN.out] at ho6'
                    have hd7 := HD6.out.named ho6' (by rw [← HNN.out] at hg6; exact hg6)
                    have hn6 : w6.heap[S + 1]? = some (.cells #[.string s.op, .int .i64 A, .int .i64 B, .string ⟨#[]⟩, .slice a3 dn c3, .string s.k, .int .i64 (s.n : Int), .slice da nt ct] 28 (0, 0)) := grown_other hnm6 hg6 (kd_below (bl_alloc (Below.refl _ _) _) HN5.out) (fun c e => by cases e)
                    have hu6 := Qn.kq HU5.out ((Kq.of (bl_alloc (Below.refl _ _) (.cells #[.string s.name] 9))).trans (Kq.grown hnm6 (by decide) hg6))
                    obtain ⟨a6, c6, rfl⟩ := own_slice1 ho6
                    have HD7 : Hid (Dd w6 w R (.slice a1 σ.l.length c1) (.slice a6 (ll + 1) c6) us { σ with ns := σ.ns ++ [s.name] }) := hd7
                    have HU6 : Hid (Qn R w w6 (.agg #[.string s.op, .int .i64 A, .int .i64 B, .string ⟨#[]⟩, .slice a3 dn c3, .string s.k, .int .i64 (s.n : Int), .slice da nt ct]) { nod s (pA ks) (pB ks) with shape := d }) := hu6
                    have n0 : w6.cell? ⟨S + 1, 0, none⟩ = some (.string s.op) := by simp [World.cell?, hn6]
                    have n1 : w6.cell? ⟨S + 1, 1, none⟩ = some (.int .i64 A) := by simp [World.cell?, hn6]
                    have n2 : w6.cell? ⟨S + 1, 2, none⟩ = some (.int .i64 B) := by simp [World.cell?, hn6]
                    have n3 : w6.cell? ⟨S + 1, 3, none⟩ = some (.string ⟨#[]⟩) := by simp [World.cell?, hn6]
                    have n4 : w6.cell? ⟨S + 1, 4, none⟩ = some (.slice a3 dn c3) := by simp [World.cell?, hn6]
                    have n5 : w6.cell? ⟨S + 1, 5, none⟩ = some (.string s.k) := by simp [World.cell?, hn6]
                    have n6 : w6.cell? ⟨S + 1, 6, none⟩ = some (.int .i64 (s.n : Int)) := by simp [World.cell?, hn6]
                    have n7 : w6.cell? ⟨S + 1, 7, none⟩ = some (.slice da nt ct) := by simp [World.cell?, hn6]
                    have d0 := hd7.c0
                    rw [HLL.out] at d0
                    have hd8 := hd7.below (bl_alloc (Below.refl _ _) (.cells #[.string s.op, .int .i64 A, .int .i64 B, .string ⟨#[]⟩, .slice a3 dn c3, .string s.k, .int .i64 (s.n : Int), .slice da nt ct] 28))
                    have hno := hd8.nodes
                    have hlt6 : R ≤ w6.heap.size := by have := hd7.lt; omega
                    simp only [HLL.out] at hno
                    have hcn8 := cells_at (xs := [.string s.op, .int .i64 A, .int .i64 B, .string ⟨#[]⟩, .slice a3 dn c3, .string s.k, .int .i64 (s.n : Int), .slice da nt ct]) (t := 28) (rfl : w6.heap.size = w6.heap.size)
                    have HD8 : Hid _ := hd8
                    clear ho6 ho6' hg6 hd7 hn6 hu6 hnm6 hcn x0 hd8
                    go_upto_region 34 with fail
                    go_wp2_with (first | (at_builtin; refine wpList_append_own _ rfl _ _ 22 rfl R 28 i28 _ 8 120 Tryz.underlying22 hi28 hz80 hz81 hz82 rfl (by decide) (.slice a1 ll c1) ll (nflat us) rfl hno ⟨w6.heap.size, 0, none⟩ 1 1 [.string s.op, .int .i64 A, .int .i64 B, .string ⟨#[]⟩, .slice a3 dn c3, .string s.k, .int .i64 (s.n : Int), .slice da nt ct] rfl rfl hcn8 (by intro u hu; simp only [List.mem_cons, List.not_mem_nil, or_false] at hu; rcases hu with rfl | rfl | rfl | rfl | rfl | rfl | rfl | rfl <;> rfl) (by unfold maxLen; omega) (by omega) (by simp; omega) ?_))
                    intro v7 w7 ho7 hg7 _
                    obtain ⟨a7, c7, rfl⟩ := own_slice8 ho7
                    have hb7 := grown_other hno hg7 HD8.out.box (fun c e => by cases e)
                    have b0 : w7.cell? ⟨R + 1, 0, none⟩ = some (.slice a1 σ.l.length c1) := by simp [World.cell?, hb7]
                    have bf : ∀ i, w7.frozen? ⟨R + 1, i, none⟩ = false := fun i => by simp [World.frozen?, hb7]
                    have HEq : Hid (rs = bld { σ with l := σ.l ++ [{ nod s (pA ks) (pB ks) with shape := d }], ns := σ.ns ++ [s.name] } (k + 1) (L.drop (k + 1)) ∧ Ok { σ with l := σ.l ++ [{ nod s (pA ks) (pB ks) with shape := d }], ns := σ.ns ++ [s.name] }) := by
                      have h1 := stp_yes HOp.out (Int.not_le.2 HNm.out) HKf.out HLx.out HSo.out
                      refine ⟨?_, HOn.out _ h1⟩
                      rw [HSt.out, h1]
                    have hd9 : Dd (w7.setCell ⟨R + 1, 0, none⟩ (.slice a7 (ll + 1) c7)) w R (.slice a7 (ll + 1) c7) (.slice a6 (ll + 1) c6) (us ++ [.agg #[.string s.op, .int .i64 A, .int .i64 B, .string ⟨#[]⟩, .slice a3 dn c3, .string s.k, .int .i64 (s.n : Int), .slice da nt ct]]) { σ with l := σ.l ++ [{ nod s (pA ks) (pB ks) with shape := d }], ns := σ.ns ++ [s.name] } := by
                      refine HD8.out.noded (Qn.kq HU6.out (Kq.of (bl_alloc (Below.refl _ _) (.cells #[.string s.op, .int .i64 A, .int .i64 B, .string ⟨#[]⟩, .slice a3 dn c3, .string s.k, .int .i64 (s.n : Int), .slice da nt ct] 28)))) ?_ ?_
                      · show w7.ownsRow R 28 8 (.slice a7 (ll + 1) c7) (σ.l.length + 1) _
                        rw [HLL.out]; exact ho7
                      · rw [HLL.out]; exact hg7
                    have HD9 : Hid _ := hd9
                    clear ho7 hg7 hno hcn8 hb7 hd9 n0 n1 n2 n3 n4 n5 n6 n7 d0
                    go_wp2_with fail
                    go_roundw
                    case rel => exact ⟨k + 1, _, _, _, by omega, by go_num, HEq.out.1, HEq.out.2, HD9.out⟩
                    case measure => simp [intOf]; omega
    · obtain rfl : k = N := by omega
      have HE2 : Hid (rs = if 0 ≤ σ.loss then .ok (σ.l, σ.loss) else .error (k, 7)) := by rw [HQ.out, HEnd.out]; exact rfl
      have d0 := HDd.out.c0
      have d1 := HDd.out.c1
      have z0 := HDd.out.z0
      have z1 := HDd.out.z1
      have zf := HDd.out.zf
      have HWl : Hid (Below w.heap.size w wr) := HDd.out.low'
      obtain ⟨lo, hloe⟩ : ∃ z, σ.loss = z := ⟨_, rfl⟩
      rw [hloe] at d1 HE2
      obtain ⟨ll, hll⟩ : ∃ m, σ.l.length = m := ⟨_, rfl⟩
      have HLL : Hid _ := hll
      have HNl : Hid (Nl wr a1 σ.l) := HDd.out.all.nl HDd.out.nodes rfl HDd.out.low'
      have HZr : Hid _ := HDd.out.zero
      simp only [hll] at d0 HCc
      clear hll hloe
      by_cases h0 : 0 ≤ lo
      · have HE3 : Hid (rs = .ok (σ.l, lo)) := by rw [HE2.out, if_pos h0]; exact rfl
        have hl1 : decide (lo < 0) = false := decide_eq_false (by omega)
        go_wp2
        refine bodyPost_ret (v := .tuple #[.agg #[.slice a1 ll c1, .int .i64 lo], .int .i64 0, .int .i64 0]) (by simp [results, Tryz.results15, go_sem, z0, z1, zf]) rfl ⟨?_, (HWl.out.setCell (by rw [HRR.out]; exact Nat.le_refl _) _).setCell (by rw [HRR.out]; exact Nat.le_refl _) _⟩
        rw [HE3.out]
        refine ⟨a1, c1, by rw [HLL.out], ?_, by rw [HLL.out]; exact HCc.out.1, HCc.out.2⟩
        have hr1 := heap_setCell_same wr R 0 _ _ (.slice a1 ll c1) HZr.out
        have k1 := Kq.set (k := 0) HZr.out (fun c e => by cases e) (Nat.le_refl R) (.slice a1 ll c1)
        have k2 := Kq.set (k := 1) hr1 (fun c e => by cases e) (Nat.le_refl R) (.int .i64 lo)
        refine (HDd.out.all.kq (k1.trans k2)).nl ((HDd.out.nodes.kept (grown_cell _ _ _) (own_off HDd.out.nodes HZr.out (fun c e => by cases e))).kept (grown_cell _ _ _) ?_) rfl ((HDd.out.low'.setCell (by rw [HRR.out]; exact Nat.le_refl _) _).setCell (by rw [HRR.out]; exact Nat.le_refl _) _)
        exact own_off HDd.out.nodes HZr.out (fun c e => by cases e)
      · have HE3 : Hid (rs = .error (k, 7)) := by rw [HE2.out, if_neg h0]; exact rfl
        have hl1 : decide (lo < 0) = true := decide_eq_true (by omega)
        go_wp2
        refine bodyPost_ret (v := .tuple #[.agg #[.slice none 0 0, .int .i64 0], .int .i64 (k : Int), .int .i64 7]) (by simp [results, Tryz.results15, go_sem, z0, z1, zf]) rfl ⟨by rw [HE3.out]; rfl, (HWl.out.setCell (by rw [HRR.out]; exact Nat.le_refl _) _).setCell (by rw [HRR.out]; exact Nat.le_refl _) _⟩
end Go.Proofs.YtadgnafafdfioaaGreatDoor.Gr
/-
  THE DOCUMENT's Same AND Equal: nodes that are the same, and graphs that are, are told so. Conditions: each theorem's own.
-/
namespace Go.Proofs.YtadgnafafdfioaaGreatDoor.Gr
open Go.Proofs.YtadgnafafdfioaaGreatDoor.Rd
set_option maxRecDepth 100000
open Go.RowKit
set_option linter.unusedVariables false
set_option linter.unusedSimpArgs false

/-- two blocks that are laid one behind the other stand -/
theorem two_blocks {w v : World} {o1 o2 : Obj} {G : Nat} (hG : w.heap.size = G) (h : Below (G + 2) ((w.alloc o1).alloc o2) v) : v.heap[G]? = some o1 ∧ v.heap[G + 1]? = some o2 ∧ Below G w v ∧ ((w.alloc o1).alloc o2).heap.size = G + 2 := by
  have e1 : (w.alloc o1).heap.size = G + 1 := by rw [← hG]; simp
  have e2 : ((w.alloc o1).alloc o2).heap.size = G + 2 := by rw [← hG]; simp
  have b0 := heap_alloc_new w o1
  rw [hG] at b0
  have b1 := heap_alloc_new (w.alloc o1) o2
  rw [e1] at b1
  refine ⟨?_, ?_, ?_, e2⟩
  · rw [h.block G (by omega), (bl_alloc (Below.refl (w.alloc o1).heap.size _) o2).block G (by omega)]; exact b0
  · rw [h.block (G + 1) (by omega)]; exact b1
  · have : Below w.heap.size w ((w.alloc o1).alloc o2) := bl_alloc (bl_alloc (Below.refl _ _) o1) o2
    rw [hG] at this
    exact this.trans (h.mono (by omega))
set_option maxHeartbeats 8000000 in
theorem refNode_same (nd : Nd) (sa sb da db : Option Addr) (sc sd dc dd : Nat) (w : World) (hS : Sp.Sl w sa nd.shape) (hT : Sp.Sl w sb nd.shape) (hD : Row w da (txts nd.data)) (hE : Row w db (txts nd.data)) (hl : nd.shape.length ≤ 1000) (hdl : nd.data.length ≤ 1000000) :
    Calls Tryz.prog 33 #[nv nd sa sc da dc, nv nd sb sd db dd] w fun e w' => e = .returned (.bool true) ∧ Below w.heap.size w w' := by
  obtain ⟨op, A, B, name, zs, K, n, data⟩ := nd
  unfold nv ncl
  simp only at hS hT hD hE hl hdl ⊢
  have HSm : Hid (∀ v, Below w.heap.size w v → Calls Tryz.prog 12 #[.slice sa zs.length sc, .slice sb zs.length sd] v fun e w' => e = .returned (.bool true) ∧ Below v.heap.size v w') := fun v hv => by
    refine (Sp.refSame_any sa sb zs zs sc sd v hl hl (sl_below hS hv) (sl_below hT hv)).mono ?_
    rintro e w' ⟨he, hs⟩
    exact ⟨by rw [he]; simp, hs.below _⟩
  have HD : Hid (∀ v, Below w.heap.size w v → ∀ i, i < data.length → ∃ b off, da = some ⟨b, off, none⟩ ∧ v.cell? ⟨b, off + i, none⟩ = some (.string (data.getD i em))) := fun v hv i hi => row_s (Row.below hD hv) hi
  have HE : Hid (∀ v, Below w.heap.size w v → ∀ i, i < data.length → ∃ b off, db = some ⟨b, off, none⟩ ∧ v.cell? ⟨b, off + i, none⟩ = some (.string (data.getD i em))) := fun v hv i hi => row_s (Row.below hE hv) hi
  obtain ⟨zl, hzl⟩ : ∃ m, zs.length = m := ⟨_, rfl⟩
  obtain ⟨dl, hdl'⟩ : ∃ m, data.length = m := ⟨_, rfl⟩
  simp only [hzl, hdl'] at HSm HD HE hl hdl ⊢
  clear hzl hdl' hS hT hD hE
  obtain ⟨G, hG⟩ : ∃ G, w.heap.size = G := ⟨_, rfl⟩
  have HGG : Hid _ := hG
  have HC : Hid (∀ v, Below (G + 2) ((w.alloc (.cells #[.string op, .int .i64 A, .int .i64 B, .string name, .slice sa zl sc, .string K, .int .i64 n, .slice da dl dc] 28)).alloc (.cells #[.string op, .int .i64 A, .int .i64 B, .string name, .slice sb zl sd, .string K, .int .i64 n, .slice db dl dd] 28)) v → v.cell? ⟨G, 7, none⟩ = some (.slice da dl dc) ∧ v.cell? ⟨G + 1, 7, none⟩ = some (.slice db dl dd) ∧ v.cell? ⟨G, 4, none⟩ = some (.slice sa zl sc) ∧ v.cell? ⟨G + 1, 4, none⟩ = some (.slice sb zl sd) ∧ Below w.heap.size w v) := fun v hv => by
    obtain ⟨h1, h2, h3, _⟩ := two_blocks HGG.out hv
    exact ⟨by simp [World.cell?, h1], by simp [World.cell?, h2], by simp [World.cell?, h1], by simp [World.cell?, h2], by rw [HGG.out]; exact h3⟩
  have HZ : Hid (((w.alloc (.cells #[.string op, .int .i64 A, .int .i64 B, .string name, .slice sa zl sc, .string K, .int .i64 n, .slice da dl dc] 28)).alloc (.cells #[.string op, .int .i64 A, .int .i64 B, .string name, .slice sb zl sd, .string K, .int .i64 n, .slice db dl dd] 28)).heap.size = G + 2) := (two_blocks hG (Below.refl _ _)).2.2.2
  have HB0 : Hid (Below w.heap.size w ((w.alloc (.cells #[.string op, .int .i64 A, .int .i64 B, .string name, .slice sa zl sc, .string K, .int .i64 n, .slice da dl dc] 28)).alloc (.cells #[.string op, .int .i64 A, .int .i64 B, .string name, .slice sb zl sd, .string K, .int .i64 n, .slice db dl dd] 28))) := bl_alloc (bl_alloc (Below.refl _ _) _) _
  clear hG
  go_enter Tryz.func33, Tryz.ntmps33
  go_wp2_with fail
  refine (HSm.out _ HB0.out).mono ?_
  rintro e w1 ⟨rfl, h1⟩
  have H1 : Hid (Below (G + 2) ((w.alloc (.cells #[.string op, .int .i64 A, .int .i64 B, .string name, .slice sa zl sc, .string K, .int .i64 n, .slice da dl dc] 28)).alloc (.cells #[.string op, .int .i64 A, .int .i64 B, .string name, .slice sb zl sd, .string K, .int .i64 n, .slice db dl dd] 28)) w1) := h1.mono (by rw [HZ.out]; exact Nat.le_refl _)
  clear h1
  obtain ⟨p7, q7, -, -, -⟩ := HC.out w1 H1.out
  simp only [HGG.out]
  go_wp2_with fail
  clear p7 q7
  go_loopw [5] (fun i wr => ∃ k : Nat, k ≤ dl ∧ i = .int .i64 (k : Int) ∧ Below (G + 2) ((w.alloc (.cells #[.string op, .int .i64 A, .int .i64 B, .string name, .slice sa zl sc, .string K, .int .i64 n, .slice da dl dc] 28)).alloc (.cells #[.string op, .int .i64 A, .int .i64 B, .string name, .slice sb zl sd, .string K, .int .i64 n, .slice db dl dd] 28)) wr) (fun i _ => dl - (intOf i).toNat)
  case atStart => exact ⟨0, by omega, rfl, H1.out⟩
  case round =>
    obtain ⟨k, hk, rfl, hb⟩ := hrel
    have HBk : Hid _ := hb
    obtain ⟨p7, q7, -, -, hb0⟩ := HC.out wr hb
    clear hb
    by_cases h : k < dl
    · obtain ⟨b1, o1, rfl, d1⟩ := HD.out wr hb0 k h
      obtain ⟨b2, o2, rfl, d2⟩ := HE.out wr hb0 k h
      generalize data.getD k em = x at d1 d2
      have hx : (x.toList != x.toList) = false := bne_self_eq_false _
      go_wp2_with fail
      go_region
      go_wp2_with fail
      go_roundw
      case rel => exact ⟨k + 1, by omega, by go_num, HBk.out.drew⟩
      case measure => simp [intOf]; omega
    · go_wp2
      go_ret
      exact ⟨rfl, hb0⟩
set_option maxHeartbeats 8000000 in
theorem refEqual_same (l : List Nd) (loss : Int) (ao bo : Option Addr) (c d : Nat) (w : World) (hA : Nl w ao l) (hB : Nl w bo l) (hs : ∀ i, i < l.length → (l.getD i zn).shape.length ≤ 1000) (hd : ∀ i, i < l.length → (l.getD i zn).data.length ≤ 1000000) (hl : l.length ≤ 1000000) :
    Calls Tryz.prog 16 #[.agg #[.slice ao l.length c, .int .i64 loss], .agg #[.slice bo l.length d, .int .i64 loss]] w fun e w' => e = .returned (.bool true) ∧ Below w.heap.size w w' := by
  have HSm : Hid (∀ i, i < l.length → ∀ v sa sb sc sd da db dc dd, Sp.Sl v sa (l.getD i zn).shape → Sp.Sl v sb (l.getD i zn).shape → Row v da (txts (l.getD i zn).data) → Row v db (txts (l.getD i zn).data) → Calls Tryz.prog 33 #[nv (l.getD i zn) sa sc da dc, nv (l.getD i zn) sb sd db dd] v fun e w' => e = .returned (.bool true) ∧ Below v.heap.size v w') := fun i hi v sa sb sc sd da db dc dd h1 h2 h3 h4 => refNode_same _ sa sb da db sc sd dc dd v h1 h2 h3 h4 (hs i hi) (hd i hi)
  have HA : Hid (∀ v, Below w.heap.size w v → ∀ i, i < l.length → ∃ b off sa sc da dc, ao = some ⟨b, off, none⟩ ∧ Sp.Sl v sa (l.getD i zn).shape ∧ Row v da (txts (l.getD i zn).data) ∧
      v.cell? ⟨b, off + i * 8, none⟩ = some (.string (l.getD i zn).op) ∧ v.cell? ⟨b, off + i * 8 + 1, none⟩ = some (.int .i64 (l.getD i zn).a) ∧ v.cell? ⟨b, off + i * 8 + 2, none⟩ = some (.int .i64 (l.getD i zn).b) ∧ v.cell? ⟨b, off + i * 8 + 3, none⟩ = some (.string (l.getD i zn).name) ∧
      v.cell? ⟨b, off + i * 8 + 4, none⟩ = some (.slice sa (l.getD i zn).shape.length sc) ∧ v.cell? ⟨b, off + i * 8 + 5, none⟩ = some (.string (l.getD i zn).k) ∧ v.cell? ⟨b, off + i * 8 + 6, none⟩ = some (.int .i64 (l.getD i zn).n) ∧ v.cell? ⟨b, off + i * 8 + 7, none⟩ = some (.slice da (l.getD i zn).data.length dc)) := fun v hv i hi => (hA.below hv).at hi
  have HB : Hid (∀ v, Below w.heap.size w v → ∀ i, i < l.length → ∃ b off sa sc da dc, bo = some ⟨b, off, none⟩ ∧ Sp.Sl v sa (l.getD i zn).shape ∧ Row v da (txts (l.getD i zn).data) ∧
      v.cell? ⟨b, off + i * 8, none⟩ = some (.string (l.getD i zn).op) ∧ v.cell? ⟨b, off + i * 8 + 1, none⟩ = some (.int .i64 (l.getD i zn).a) ∧ v.cell? ⟨b, off + i * 8 + 2, none⟩ = some (.int .i64 (l.getD i zn).b) ∧ v.cell? ⟨b, off + i * 8 + 3, none⟩ = some (.string (l.getD i zn).name) ∧
      v.cell? ⟨b, off + i * 8 + 4, none⟩ = some (.slice sa (l.getD i zn).shape.length sc) ∧ v.cell? ⟨b, off + i * 8 + 5, none⟩ = some (.string (l.getD i zn).k) ∧ v.cell? ⟨b, off + i * 8 + 6, none⟩ = some (.int .i64 (l.getD i zn).n) ∧ v.cell? ⟨b, off + i * 8 + 7, none⟩ = some (.slice da (l.getD i zn).data.length dc)) := fun v hv i hi => (hB.below hv).at hi
  obtain ⟨N, hN⟩ : ∃ N, l.length = N := ⟨_, rfl⟩
  rw [hN] at HSm HA HB hl ⊢
  clear hN hA hB hs hd
  obtain ⟨G, hG⟩ : ∃ G, w.heap.size = G := ⟨_, rfl⟩
  have HGG : Hid _ := hG
  have HC : Hid (∀ v, Below (G + 2) ((w.alloc (.cells #[.slice ao N c, .int .i64 loss] 24)).alloc (.cells #[.slice bo N d, .int .i64 loss] 24)) v → v.cell? ⟨G, 0, none⟩ = some (.slice ao N c) ∧ v.cell? ⟨G + 1, 0, none⟩ = some (.slice bo N d) ∧ Below w.heap.size w v) := fun v hv => by
    obtain ⟨h1, h2, h3, _⟩ := two_blocks HGG.out hv
    exact ⟨by simp [World.cell?, h1], by simp [World.cell?, h2], by rw [HGG.out]; exact h3⟩
  have HZ : Hid (((w.alloc (.cells #[.slice ao N c, .int .i64 loss] 24)).alloc (.cells #[.slice bo N d, .int .i64 loss] 24)).heap.size = G + 2) := (two_blocks hG (Below.refl _ _)).2.2.2
  clear hG
  go_enter Tryz.func16, Tryz.ntmps16
  go_wp2_with fail
  simp only [HGG.out]
  go_loopw [5] (fun i wr => ∃ k : Nat, k ≤ N ∧ i = .int .i64 (k : Int) ∧ Below (G + 2) ((w.alloc (.cells #[.slice ao N c, .int .i64 loss] 24)).alloc (.cells #[.slice bo N d, .int .i64 loss] 24)) wr) (fun i _ => N - (intOf i).toNat)
  case atStart => exact ⟨0, by omega, rfl, Below.refl _ _⟩
  case round =>
    obtain ⟨k, hk, rfl, hb⟩ := hrel
    have HBk : Hid _ := hb
    obtain ⟨p0, q0, hb0⟩ := HC.out wr hb
    clear hb
    by_cases h : k < N
    · obtain ⟨b1, o1, sa, sc, da, dc, rfl, hS1, hD1, c0, c1, c2, c3, c4, c5, c6, c7⟩ := HA.out wr hb0 k h
      obtain ⟨b2, o2, sb, sd, db, dd, rfl, hS2, hD2, d0, d1, d2, d3, d4, d5, d6, d7⟩ := HB.out wr hb0 k h
      have HCl : Hid (∀ v, Below wr.heap.size wr v → Calls Tryz.prog 33 #[nv (l.getD k zn) sa sc da dc, nv (l.getD k zn) sb sd db dd] v fun e w' => e = .returned (.bool true) ∧ Below v.heap.size v w') := fun v hv => HSm.out k h v sa sb sc sd da db dc dd (sl_below hS1 hv) (sl_below hS2 hv) (Row.below hD1 hv) (Row.below hD2 hv)
      clear hS1 hS2 hD1 hD2
      obtain ⟨nd, hnd⟩ : ∃ z, l.getD k zn = z := ⟨_, rfl⟩
      rw [hnd] at c0 c1 c2 c3 c4 c5 c6 c7 d0 d1 d2 d3 d4 d5 d6 d7 HCl
      clear hnd
      obtain ⟨op, A, B, name, zs, K, n, data⟩ := nd
      unfold nv ncl at HCl
      simp only at c0 c1 c2 c3 c4 c5 c6 c7 d0 d1 d2 d3 d4 d5 d6 d7 HCl
      generalize zs.length = zl at c4 d4 HCl
      generalize data.length = dl at c7 d7 HCl
      have HGl : Hid (G + 2 ≤ wr.heap.size) := by have := HBk.out.size; rw [HZ.out] at this; exact this
      go_upto_region 6 with fail
      refine region_bar 10 (fun v => ∃ nq, v = wr.drewN nq) (by kernel_rfl) (by kernel_rfl) (by kernel_rfl) ⟨1, rfl⟩ ?_
      simp only [List.take_succ_cons, List.take_zero]
      repeat (go_big_quiet_step (fail))
      refine wpQuiet_nil ?_
      rintro _ ⟨nq, rfl⟩
      refine any_one 10 _ (by kernel_rfl) rfl (fun K1 hK1 => ?_)
      go_simp
      refine (HCl.out _ (bl_n (Below.refl _ _) nq)).mono ?_
      rintro e w2 ⟨rfl, h2⟩
      have H2 : Hid _ := HBk.out.trans (((bl_n (Below.refl _ _) nq).trans h2).mono HGl.out)
      clear h2 c0 c1 c2 c3 c4 c5 c6 c7 d0 d1 d2 d3 d4 d5 d6 d7 p0 q0
      go_simp
      refine hK1 _ _ ?_
      clear hK1 K1
      refine any_one 11 _ (by kernel_rfl) rfl (fun K1 hK1 => ?_)
      go_simp
      refine hK1 _ _ ?_
      clear hK1 K1
      refine any_end (by kernel_rfl) ?_
      go_wp2_with fail
      go_roundw
      case rel => exact ⟨k + 1, by omega, by go_num, H2.out⟩
      case measure => simp [intOf]; omega
    · go_wp2
      go_ret
      exact ⟨rfl, hb0⟩
end Go.Proofs.YtadgnafafdfioaaGreatDoor.Gr
