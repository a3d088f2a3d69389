/-
  THE BUILDER IN MEMORY: nodes in a slice of one's own, names in a map, the loss. Conditions: each theorem's own.
-/
import Derived.Test.YtadgnafafdfioaaGreatDoorGP
import Derived.Test.YtadgnafafdfioaaGreatDoorGR
import Derived.Test.YtadgnafafdfioaaGreatDoorMl
import Derived.Test.YtadgnafafdfioaaGreatDoorGX
import Derived.Test.YtadgnafafdfioaaGreatDoorGb
namespace Go.Proofs.YtadgnafafdfioaaGreatDoor.Gr
open Go.Proofs.YtadgnafafdfioaaGreatDoor.Rd
set_option maxRecDepth 100000
open Go.RowKit Go.Maps Go.ChangeMaps Go.WideMaps
set_option linter.unusedVariables false
set_option linter.unusedSimpArgs false

/-- names and their places -/
def bps : List ByteArray → Nat → List (ByteArray × Int)
  | [], _ => []
  | x :: l, k => (x, (k : Int)) :: bps l (k + 1)
theorem bps_fp (ns : List ByteArray) (x : ByteArray) (k : Nat) : fp (bps ns k) x = (fnd ns x).map fun j => ((k + j : Nat) : Int) := by
  induction ns generalizing k with
  | nil => rfl
  | cons y ns ih =>
    unfold bps fp fnd
    by_cases h : y = x
    · simp [h]
    · simp only [h, if_false]
      rw [ih, Option.map_map]
      congr 1
      funext j
      simp only [Function.comp]
      congr 1
      omega
theorem bps_snoc (ns : List ByteArray) (x : ByteArray) (k : Nat) : bps (ns ++ [x]) k = bps ns k ++ [(x, ((k + ns.length : Nat) : Int))] := by
  induction ns generalizing k with
  | nil => simp [bps]
  | cons y ns ih =>
    rw [List.cons_append]
    unfold bps
    rw [ih]
    simp only [List.cons_append, List.length_cons]
    congr 4
    omega
/-- a node by value, its shape and its data slices of one's own -/
def Sn (w : World) (u : Value) (nd : Nd) : Prop :=
  ∃ us ud, u = .agg #[.string nd.op, .int .i64 nd.a, .int .i64 nd.b, .string nd.name, us, .string nd.k, .int .i64 nd.n, ud] ∧ w.ownsRow 0 3 1 us nd.shape.length (Tn.nums nd.shape) ∧ w.ownsRow 0 9 1 ud nd.data.length (txts nd.data)
theorem Sn.below {w w' : World} {u : Value} {nd : Nd} (h : Sn w u nd) (hb : Below w.heap.size w w') : Sn w' u nd := by
  obtain ⟨us, ud, e, h1, h2⟩ := h
  exact ⟨us, ud, e, Lx.own_below h1 hb, Lx.own_below h2 hb⟩
theorem Sn.grown {w w' : World} {b2 n2 : Nat} {u v2 : Value} {nd : Nd} {x2 : List Value} (h : Sn w u nd) (h2 : w.ownsRow b2 28 8 v2 n2 x2) (hg : w.grownBy w' v2.ownBlock) : Sn w' u nd := by
  obtain ⟨us, ud, e, p1, p2⟩ := h
  exact ⟨us, ud, e, Lx.own_grown p1 h2 (by decide) hg, Lx.own_grown p2 h2 (by decide) hg⟩
/-- a row of one's own lies not where another kind of block is -/
theorem own_off {w : World} {b e s n D : Nat} {v : Value} {xs : List Value} {o : Obj} (h : w.ownsRow b e s v n xs) (hD : w.heap[D]? = some o) (ho : ∀ c, o ≠ .cells c e (0, 0)) : v.ownBlock = none ∨ v.ownBlock ≠ some D := by
  rcases h.2 with ⟨rfl, _⟩ | ⟨g, cap, cur, rfl, _, hg, _⟩
  · exact .inl rfl
  · right
    simp only [Value.ownBlock, ne_eq, Option.some.injEq]
    intro e'
    subst e'
    rw [hD] at hg
    cases hg
    exact ho _ rfl
theorem Sn.off {w w' : World} {D : Nat} {u : Value} {nd : Nd} {o : Obj} (h : Sn w u nd) (hD : w.heap[D]? = some o) (h3 : ∀ c, o ≠ .cells c 3 (0, 0)) (h9 : ∀ c, o ≠ .cells c 9 (0, 0)) (hg : w.grownBy w' (some D)) : Sn w' u nd := by
  obtain ⟨us, ud, e, p1, p2⟩ := h
  exact ⟨us, ud, e, p1.kept hg (own_off p1 hD h3), p2.kept hg (own_off p2 hD h9)⟩
def ncs : Value → List Value
  | .agg a => a.toList
  | _ => []
theorem ncs_len {w : World} {v : Value} {s : Nd} (h : Sn w v s) : (ncs v).length = 8 := by
  obtain ⟨us, ud, rfl, _⟩ := h
  rfl
def nflat (us : List Value) : List Value := us.flatMap ncs
theorem nflat_app (a b : List Value) : nflat (a ++ b) = nflat a ++ nflat b := by simp [nflat]
def Ln (w : World) : List Value → List Nd → Prop
  | [], [] => True
  | u :: us, s :: ss => Sn w u s ∧ Ln w us ss
  | _, _ => False
theorem Ln.mono {w w' : World} (hw : ∀ u s, Sn w u s → Sn w' u s) : ∀ {us : List Value} {ss : List Nd}, Ln w us ss → Ln w' us ss
  | [], [], _ => True.intro
  | u :: us, s :: ss, h => ⟨hw _ _ h.1, Ln.mono hw h.2⟩
  | [], _ :: _, h => h.elim
  | _ :: _, [], h => h.elim
theorem Ln.snoc {w : World} {u : Value} {s : Nd} (hu : Sn w u s) : ∀ {us : List Value} {ss : List Nd}, Ln w us ss → Ln w (us ++ [u]) (ss ++ [s])
  | [], [], _ => ⟨hu, True.intro⟩
  | p :: us, l :: ls, h => ⟨h.1, Ln.snoc hu h.2⟩
  | [], _ :: _, h => h.elim
  | _ :: _, [], h => h.elim
theorem nflat_at {w : World} : ∀ {us : List Value} {ss : List Nd}, Ln w us ss → ∀ {i : Nat}, i < ss.length → ∃ u, us[i]? = some u ∧ Sn w u (ss.getD i zn) ∧ ∀ j, j < 8 → (nflat us)[i * 8 + j]? = (ncs u)[j]?
  | [], [], _, i, hi => by simp at hi
  | u :: us, t :: ss, h, 0, hi => by
    refine ⟨u, rfl, h.1, fun j hj => ?_⟩
    have hl := ncs_len h.1
    have e : nflat (u :: us) = ncs u ++ nflat us := by simp [nflat]
    rw [e, Nat.zero_mul, Nat.zero_add, List.getElem?_append_left (by omega)]
  | u :: us, t :: ss, h, i + 1, hi => by
    obtain ⟨v, h1, h2, h3⟩ := nflat_at h.2 (i := i) (by simpa using hi)
    refine ⟨v, by simpa using h1, by simpa [List.getD] using h2, fun j hj => ?_⟩
    have hl := ncs_len h.1
    have e : nflat (u :: us) = ncs u ++ nflat us := by simp [nflat]
    rw [e, List.getElem?_append_right (by omega), hl, show (i + 1) * 8 + j - 8 = i * 8 + j by omega]
    exact h3 j hj
  | [], _ :: _, h, _, _ => h.elim
  | _ :: _, [], h, _, _ => h.elim
/-- a slice of nodes of one's own -/
structure Gn (w : World) (base : Nat) (v : Value) (us : List Value) (l : List Nd) : Prop where
  own : w.ownsRow base 28 8 v l.length (nflat us)
  all : Ln w us l
theorem Gn.nil (w : World) (base : Nat) : Gn w base (.slice none 0 0) [] [] := ⟨World.ownsRow_nil w base 28 8, True.intro⟩
theorem Gn.below {w w' : World} {base : Nat} {v : Value} {us : List Value} {l : List Nd} (h : Gn w base v us l) (hb : Below w.heap.size w w') : Gn w' base v us l := ⟨Lx.own_below h.own hb, h.all.mono fun u s h => h.below hb⟩
theorem Gn.mono {w : World} {base base' : Nat} {v : Value} {us : List Value} {l : List Nd} (h : Gn w base v us l) (hb : base' ≤ base) : Gn w base' v us l := ⟨Lx.own_mono h.own hb, h.all⟩
theorem Gn.snoc {w w' : World} {base : Nat} {v v' u : Value} {us : List Value} {l : List Nd} {s : Nd} (h : Gn w base v us l) (hu : Sn w u s)
    (hown : w'.ownsRow base 28 8 v' (l.length + 1) (nflat us ++ ncs u)) (hg : w.grownBy w' v.ownBlock) : Gn w' base v' (us ++ [u]) (l ++ [s]) := by
  have k : ∀ u s, Sn w u s → Sn w' u s := fun u s hu => hu.grown h.own hg
  refine ⟨?_, (h.all.mono k).snoc (k _ _ hu)⟩
  have e : nflat [u] = ncs u := by simp [nflat]
  rw [nflat_app, List.length_append, e]
  exact hown
theorem Gn.off {w w' : World} {base D : Nat} {v : Value} {us : List Value} {l : List Nd} {o : Obj} (h : Gn w base v us l) (hD : w.heap[D]? = some o) (h3 : ∀ c, o ≠ .cells c 3 (0, 0)) (h9 : ∀ c, o ≠ .cells c 9 (0, 0)) (h28 : ∀ c, o ≠ .cells c 28 (0, 0)) (hg : w.grownBy w' (some D)) : Gn w' base v us l :=
  ⟨h.own.kept hg (own_off h.own hD h28), h.all.mono fun u s hu => hu.off hD h3 h9 hg⟩
theorem Gn.form {w : World} {base : Nat} {v : Value} {us : List Value} {l : List Nd} (h : Gn w base v us l) : ∃ ao cap, v = .slice ao l.length cap ∧ l.length ≤ cap ∧ cap ≤ maxLen := by
  rcases h.own.2 with ⟨h1, h2⟩ | ⟨g, c, cur, h1, h2, h3, h4, h5, _⟩
  · exact ⟨none, 0, by rw [h1, h2], by omega, by unfold maxLen; omega⟩
  · exact ⟨some ⟨g, 0, none⟩, c, h1, h4, h5⟩
/-- as they are read -/
theorem Gn.nl {w : World} {base n cap : Nat} {ao : Option Addr} {us : List Value} {l : List Nd} (h : Gn w base (.slice ao n cap) us l) : Nl w ao l := by
  intro i hi
  obtain ⟨u, _, ⟨vs, vd, rfl, p1, p2⟩, hf⟩ := nflat_at h.all hi
  rcases h.own.2 with ⟨h1, h2⟩ | ⟨g, c, cur, h1, h2, h3, h4, h5, _⟩
  · omega
  · have e : ao = some ⟨g, 0, none⟩ := by simp only [Value.slice.injEq] at h1; exact h1.1
    obtain ⟨sa, sc, hse, hSr, _, _, _⟩ := Row.of_own p1
    obtain ⟨da, dc, hde, hDr, _, _, _⟩ := Row.of_own p2
    refine ⟨g, 0, ncl (l.getD i zn) sa sc da dc, e, ⟨sa, sc, da, dc, rfl, Tn.row_sl hSr, hDr⟩, fun j hj => ?_⟩
    have hg : (Value.slice ao n cap) = .slice (some ⟨g, 0, none⟩) l.length c := h1
    have hc := h.own
    rw [hg] at hc
    rw [Nat.zero_add, hc.cellAt (i * 8 + j) (by omega)]
    have := hf j hj
    rw [this]
    rw [hse, hde]
    rfl
/-- what has been built, in memory: the builder's own block D, the names' map M, both behind block B -/
structure Bs (w : World) (B D M : Nat) (v : Value) (us : List Value) (σ : St) : Prop where
  hD : B ≤ D
  hM : B ≤ M
  box : w.heap[D]? = some (.cells #[v, .map (some M), .int .i64 σ.loss] 69 (0, 0))
  map : Mz w M (bps σ.ns 0)
  nodes : Gn w B v us σ.l
theorem Bs.below {w w' : World} {B D M : Nat} {v : Value} {us : List Value} {σ : St} (h : Bs w B D M v us σ) (hb : Below w.heap.size w w') : Bs w' B D M v us σ :=
  ⟨h.hD, h.hM, by rw [hb.block D ((Array.getElem?_eq_some_iff.1 h.box).1)]; exact h.box, h.map.below hb h.map.lt, h.nodes.below hb⟩
theorem Bs.lt {w : World} {B D M : Nat} {v : Value} {us : List Value} {σ : St} (h : Bs w B D M v us σ) : D < w.heap.size := (Array.getElem?_eq_some_iff.1 h.box).1
theorem Bs.ne {w : World} {B D M : Nat} {v : Value} {us : List Value} {σ : St} (h : Bs w B D M v us σ) : D ≠ M := by
  intro e
  have h1 := h.box
  have h2 := h.map
  unfold Mz at h2
  rw [e, h2] at h1
  cases h1
theorem Bs.c0 {w : World} {B D M : Nat} {v : Value} {us : List Value} {σ : St} (h : Bs w B D M v us σ) : w.cell? ⟨D, 0, none⟩ = some v := by simp [World.cell?, h.box]
theorem Bs.c1 {w : World} {B D M : Nat} {v : Value} {us : List Value} {σ : St} (h : Bs w B D M v us σ) : w.cell? ⟨D, 1, none⟩ = some (.map (some M)) := by simp [World.cell?, h.box]
theorem Bs.c2 {w : World} {B D M : Nat} {v : Value} {us : List Value} {σ : St} (h : Bs w B D M v us σ) : w.cell? ⟨D, 2, none⟩ = some (.int .i64 σ.loss) := by simp [World.cell?, h.box]
theorem Bs.frz {w : World} {B D M : Nat} {v : Value} {us : List Value} {σ : St} (h : Bs w B D M v us σ) (i : Nat) : w.frozen? ⟨D, i, none⟩ = false := by simp [World.frozen?, h.box]
end Go.Proofs.YtadgnafafdfioaaGreatDoor.Gr
/-
  THE PLACES OF NAMES. Conditions: each theorem's own.
-/
namespace Go.Proofs.YtadgnafafdfioaaGreatDoor.Gr
open Go.Proofs.YtadgnafafdfioaaGreatDoor.Rd
set_option maxRecDepth 100000
open Go.RowKit
set_option linter.unusedVariables false
set_option linter.unusedSimpArgs false

theorem inf3g : (Tryz.prog.info? 3).map (fun i => (i.zero, i.size, i.bytes)) = some (some (.int .i64 0), 1, 8) := by kernel_rfl
theorem run_zero3b (w : World) : (zeroValue 3).run Tryz.prog w = .ok (.int .i64 0) w := by kernel_rfl
/-- places as numbers -/
def ints (ks : List Nat) : List Int := ks.map fun k : Nat => (k : Int)
/-- what find tells -/
def Fnd (w' : World) (o : Option (List Nat)) (e : Ending) : Prop :=
  match o with
  | some ks => ∃ a c, e = .returned (.tuple #[.slice a ks.length c, .bool true]) ∧ Sp.Sl w' a (ints ks)
  | none => e = .returned (.tuple #[.slice none 0 0, .bool false])
theorem fnds_snoc (ns : List ByteArray) : ∀ (l : List ByteArray) (x : ByteArray), fnds ns (l ++ [x]) = match fnds ns l, fnd ns x with
    | some ks, some k => some (ks ++ [k])
    | _, _ => none
  | [], x => by
    show fnds ns [x] = _
    unfold fnds
    cases fnd ns x <;> rfl
  | y :: l, x => by
    rw [List.cons_append]
    unfold fnds
    rw [fnds_snoc ns l x]
    cases fnd ns y <;> cases fnds ns l <;> cases fnd ns x <;> rfl
theorem fnds_app_none {ns l r : List ByteArray} (h : fnds ns l = none) : fnds ns (l ++ r) = none := by
  induction l with
  | nil => cases h
  | cons y l ih =>
    rw [List.cons_append]
    unfold fnds at h ⊢
    cases h1 : fnd ns y with
    | none => rfl
    | some k =>
      cases h2 : fnds ns l with
      | none => rw [ih h2]
      | some ks => simp [h1, h2] at h
theorem take_snoc_ba (l : List ByteArray) (k : Nat) (h : k < l.length) : l.take (k + 1) = l.take k ++ [l.getD k em] := by
  rw [List.take_add_one, List.getElem?_eq_getElem h]; simp [List.getD, h]
theorem fnds_next {ns args : List ByteArray} {k j : Nat} {ks : List Nat} (hk : k < args.length) (h : fnds ns (args.take k) = some ks) (hj : fnd ns (args.getD k em) = some j) : fnds ns (args.take (k + 1)) = some (ks ++ [j]) := by
  rw [take_snoc_ba args k hk, fnds_snoc, h, hj]
theorem fnds_stop {ns args : List ByteArray} {k : Nat} (hk : k < args.length) (hj : fnd ns (args.getD k em) = none) : fnds ns args = none := by
  have h1 : fnds ns (args.take (k + 1)) = none := by
    rw [take_snoc_ba args k hk, fnds_snoc, hj]
    cases fnds ns (args.take k) <;> rfl
  have := fnds_app_none (r := args.drop (k + 1)) h1
  rwa [List.take_append_drop] at this
theorem nums_nil : Tn.nums (ints []) = [] := rfl
theorem nums_ints_snoc (ks : List Nat) (j : Nat) : Tn.nums (ints (ks ++ [j])) = Tn.nums (ints ks) ++ [.int .i64 (j : Int)] := by simp [ints, Tn.nums]
theorem own_sl {w : World} {B n c : Nat} {ao : Option Addr} {zs : List Int} (h : w.ownsRow B 3 1 (.slice ao n c) n (Tn.nums zs)) : Sp.Sl w ao zs := by
  obtain ⟨a, c', e, hR, _⟩ := Row.of_own h
  simp only [Value.slice.injEq] at e
  rw [e.1]; exact Tn.row_sl hR
theorem own_slice {w : World} {B n : Nat} {v : Value} {xs : List Value} (h : w.ownsRow B 3 1 v n xs) : ∃ a c, v = .slice a n c := by
  obtain ⟨a, c', e, _⟩ := Row.of_own h
  exact ⟨a, c', e⟩
set_option maxHeartbeats 4000000 in
theorem find_any (ns args : List ByteArray) (D M : Nat) (aa : Option Addr) (cc : Nat) (w : World) (hC1 : w.cell? ⟨D, 1, none⟩ = some (.map (some M))) (hM : Mz w M (bps ns 0)) (hR : Row w aa (txts args)) (hl : args.length ≤ 1000) (hsz : ∀ i, i < args.length → (args.getD i em).size ≤ maxLen) :
    Calls Tryz.prog 64 #[.pointer (some ⟨D, 0, none⟩), .slice aa args.length cc] w fun e w' => Fnd w' (fnds ns args) e ∧ Below w.heap.size w w' := by
  obtain ⟨i0, hi, hz0, hz1, hz2⟩ := info_parts inf3g
  have HSt : Hid (∀ k, k < args.length → fnd ns (args.getD k em) = none → fnds ns args = none) := fun k hk h => fnds_stop hk h
  have HNx : Hid (∀ k j ks, k < args.length → fnds ns (args.take k) = some ks → fnd ns (args.getD k em) = some j → fnds ns (args.take (k + 1)) = some (ks ++ [j])) := fun k j ks hk h hj => fnds_next hk h hj
  have HRx : Hid (∀ v, Below w.heap.size w v → ∀ i, i < args.length → ∃ b off, aa = some ⟨b, off, none⟩ ∧ v.cell? ⟨b, off + i, none⟩ = some (.string (args.getD i em))) := fun v hv i hi => row_s (Row.below hR hv) hi
  have HAll : Hid (args.take args.length = args) := List.take_length
  have HSz : Hid _ := hsz
  have HMz : Hid (Mz w M (bps ns 0)) := hM
  have HC : Hid _ := hC1
  obtain ⟨N, hN⟩ : ∃ N, args.length = N := ⟨_, rfl⟩
  rw [hN] at HSt HNx HRx HSz HAll hl ⊢
  clear hN hR hM hC1 hsz
  go_enter Tryz.func64, Tryz.ntmps64
  go_wp2_with fail
  go_loopw [6, 13] (fun o i wr => ∃ (k : Nat) (ks : List Nat), k ≤ N ∧ i = .int .i64 (k : Int) ∧ fnds ns (args.take k) = some ks ∧ ks.length = k ∧ wr.ownsRow w.heap.size 3 1 o k (Tn.nums (ints ks)) ∧ Below w.heap.size w wr) (fun _ i _ => N - (intOf i).toNat)
  case atStart => exact ⟨0, [], Nat.zero_le _, rfl, rfl, rfl, World.ownsRow_nil _ _ 3 1, Below.refl _ _⟩
  case round =>
    obtain ⟨k, ks, hk, rfl, hf, hkl, hown, hb⟩ := hrel
    have HF : Hid _ := hf
    have HKL : Hid _ := hkl
    have HBk : Hid _ := hb
    clear hf hkl
    by_cases h : k < N
    · obtain ⟨b, off, rfl, hcx⟩ := HRx.out wr hb k h
      have hc1 := cell_below hb HC.out
      have hm := Mz.below HMz.out hb HMz.out.lt
      have hs := HSz.out k h
      obtain ⟨x, hx⟩ : ∃ z, args.getD k em = z := ⟨_, rfl⟩
      rw [hx] at hcx hs
      have HX : Hid _ := hx
      clear hx hb
      obtain ⟨v, hv⟩ : ∃ v, fnd ns x = v := ⟨_, rfl⟩
      have hfp := bps_fp ns x 0
      rw [hv] at hfp
      cases v with
      | none =>
        have hlk := Mz.look_no (P := Tryz.prog) hm Tryz.underlying50 Tryz.underlying9 hs hfp (run_zero3b wr)
        have HNn : Hid (fnds ns args = none) := HSt.out k h (by rw [HX.out]; exact hv)
        clear hm hs hfp hv hown
        go_wp2
        go_ret2
        exact ⟨by rw [HNn.out]; rfl, HBk.out⟩
      | some j =>
        have hfp' : fp (bps ns 0) x = some (j : Int) := by rw [hfp]; simp
        have hlk := Mz.look (P := Tryz.prog) hm Tryz.underlying50 Tryz.underlying9 hs hfp'
        have HNs : Hid (fnds ns (args.take (k + 1)) = some (ks ++ [j])) := HNx.out k j ks h HF.out (by rw [HX.out]; exact hv)
        have hsize := HBk.out.size
        clear hm hs hfp hfp' hv
        go_wp2_with (first | (at_builtin; refine wpList_append_own _ rfl _ _ 25 rfl w.heap.size 3 i0 _ 1 8 Tryz.underlying25 hi hz0 hz1 hz2 rfl (by decide) _ k (Tn.nums (ints ks)) rfl (hown.alloc _) ⟨wr.heap.size, 0, none⟩ 1 1 [.int .i64 (j : Int)] rfl rfl ?_ ?_ ?_ ?_ ?_ ?_))
        · exact (Row.one (by go_simp)).news
        · intro u hu
          simp only [List.mem_cons, List.not_mem_nil, or_false] at hu
          subst hu; rfl
        · unfold maxLen; omega
        · omega
        · simp; omega
        · intro v' w3 hown3 hgrow _
          have hB3 : Below w.heap.size w w3 := (HBk.out.alloc HBk.out.size _).grown hgrow (by simp; omega) (fun x hx => (hown.lt x hx).1)
          have HO3 : Hid (w3.ownsRow w.heap.size 3 1 v' (k + 1) (Tn.nums (ints (ks ++ [j])))) := by rw [nums_ints_snoc]; exact hown3
          have HB3 : Hid _ := hB3
          clear hown3 hgrow hown hB3 hsize
          go_wp2
          go_roundw
          case rel => exact ⟨k + 1, ks ++ [j], by omega, by go_num, HNs.out, by rw [List.length_append, HKL.out]; rfl, HO3.out, HB3.out⟩
          case measure => simp [intOf]; omega
    · obtain rfl : k = N := by omega
      have HE1 : Hid (fnds ns args = some ks) := by have := HF.out; rw [HAll.out] at this; exact this
      obtain ⟨a, c', rfl⟩ := own_slice hown
      have HSl : Hid _ := own_sl hown
      clear hown hb
      go_wp2
      go_ret2
      exact ⟨by rw [HE1.out]; exact ⟨a, c', by rw [HKL.out]; rfl, HSl.out⟩, HBk.out⟩
end Go.Proofs.YtadgnafafdfioaaGreatDoor.Gr
/-
  THE NODE THAT A STATEMENT TELLS. Conditions: each theorem's own.
-/
namespace Go.Proofs.YtadgnafafdfioaaGreatDoor.Gr
open Go.Proofs.YtadgnafafdfioaaGreatDoor.Rd
set_option maxRecDepth 100000
open Go.RowKit
set_option linter.unusedVariables false
set_option linter.unusedSimpArgs false

set_option maxHeartbeats 4000000 in
theorem node_any (name op K : ByteArray) (n : Int) (ks : List Nat) (na ca nz cz nt ct rc : Nat) (aa sa da ra : Option Addr) (w : World) (hp : prv op = (ks.length : Int)) (hR : Sp.Sl w ra (ints ks)) :
    Calls Tryz.prog 65 #[.agg #[.string name, .string op, .slice aa na ca, .slice sa nz cz, .string K, .int .i64 n, .slice da nt ct], .slice ra ks.length rc] w fun e w' => e = .returned (.tuple #[.agg #[.string op, .int .i64 (pA ks), .int .i64 (pB ks), .string (if nmd op = true then name else em), .slice sa nz cz, .string K, .int .i64 n, .slice da nt ct], .bool true]) ∧ Below w.heap.size w w' := by
  obtain ⟨q, hq⟩ : ∃ b, nmd op = b := ⟨_, rfl⟩
  have HN : Hid (∀ v, Calls Tryz.prog 18 #[.string op] v fun e w' => e = .returned (.bool q) ∧ w' = v) := fun v => hq ▸ named_any op v
  have HP : Hid (∀ v, Calls Tryz.prog 35 #[.string op] v fun e w' => e = .returned (.int .i64 (ks.length : Int)) ∧ w' = v) := fun v => hp ▸ parts_any op v
  have HB1 : Hid (Below w.heap.size w w) := Below.refl _ _
  have hk2 : ks.length ≤ 2 := by
    rcases prv_cases op with ⟨_, h⟩ | ⟨_, h⟩ | ⟨_, h⟩ | ⟨_, h⟩ <;> omega
  rw [hq]
  have hRv : ∀ (v : World), Below w.heap.size w v → Sp.Sl v ra (ints ks) := fun v hv => sl_below hR hv
  clear hp hq hR
  match ks, hk2, hRv, HP with
  | [], hk2, hRv, HP =>
    have HRv : Hid _ := hRv
    clear hRv hk2
    simp only [pA, pB, List.length_cons, List.length_nil, Nat.zero_add, Nat.reduceAdd] at HP ⊢
    cases q with
    | true =>
      go_enter Tryz.func65, Tryz.ntmps65
      go_wp2_with fail
      refine (HP.out _).mono ?_
      rintro e w1 ⟨rfl, rfl⟩
      go_wp2_with fail
      refine (HN.out _).mono ?_
      rintro e w1 ⟨rfl, rfl⟩
      go_wp2
      refine bodyPost_ret (v := .tuple #[.agg #[.string op, .int .i64 0, .int .i64 0, .string name, .slice sa nz cz, .string K, .int .i64 n, .slice da nt ct], .bool true]) (by simp [results, Tryz.results65, go_sem]) rfl ⟨by simp, ?_⟩
      exact bl_alloc (bl_alloc (bl_alloc HB1.out _) _) _
    | false =>
      go_enter Tryz.func65, Tryz.ntmps65
      go_wp2_with fail
      refine (HP.out _).mono ?_
      rintro e w1 ⟨rfl, rfl⟩
      go_wp2_with fail
      refine (HN.out _).mono ?_
      rintro e w1 ⟨rfl, rfl⟩
      go_wp2
      refine bodyPost_ret (v := .tuple #[.agg #[.string op, .int .i64 0, .int .i64 0, .string em, .slice sa nz cz, .string K, .int .i64 n, .slice da nt ct], .bool true]) (by simp [results, Tryz.results65, go_sem]) rfl ⟨by simp, ?_⟩
      exact bl_alloc (bl_alloc (bl_alloc HB1.out _) _) _
  | [x], hk2, hRv, HP =>
    have HRv : Hid _ := hRv
    clear hRv hk2
    simp only [pA, pB, List.length_cons, List.length_nil, Nat.zero_add, Nat.reduceAdd] at HP ⊢
    obtain ⟨rb, ro, rfl, r0⟩ := HRv.out w (Below.refl _ _) 0 (by simp [ints])
    have r0' : w.cell? ⟨rb, ro, none⟩ = some (.int .i64 (x : Int)) := r0
    have r3 : ∀ o1 o2 o3, (((w.alloc o1).alloc o2).alloc o3).cell? ⟨rb, ro, none⟩ = some (.int .i64 (x : Int)) := fun o1 o2 o3 => cell_below (bl_alloc (bl_alloc (bl_alloc (Below.refl _ _) o1) o2) o3) r0'
    clear r0
    cases q with
    | true =>
      go_enter Tryz.func65, Tryz.ntmps65
      go_wp2_with fail
      refine (HP.out _).mono ?_
      rintro e w1 ⟨rfl, rfl⟩
      go_wp2_with fail
      refine (HN.out _).mono ?_
      rintro e w1 ⟨rfl, rfl⟩
      go_wp2
      refine bodyPost_ret (v := .tuple #[.agg #[.string op, .int .i64 (x : Int), .int .i64 0, .string name, .slice sa nz cz, .string K, .int .i64 n, .slice da nt ct], .bool true]) (by simp [results, Tryz.results65, go_sem]) rfl ⟨by simp, ?_⟩
      exact bl_alloc (bl_alloc (bl_alloc HB1.out _) _) _
    | false =>
      go_enter Tryz.func65, Tryz.ntmps65
      go_wp2_with fail
      refine (HP.out _).mono ?_
      rintro e w1 ⟨rfl, rfl⟩
      go_wp2_with fail
      refine (HN.out _).mono ?_
      rintro e w1 ⟨rfl, rfl⟩
      go_wp2
      refine bodyPost_ret (v := .tuple #[.agg #[.string op, .int .i64 (x : Int), .int .i64 0, .string em, .slice sa nz cz, .string K, .int .i64 n, .slice da nt ct], .bool true]) (by simp [results, Tryz.results65, go_sem]) rfl ⟨by simp, ?_⟩
      exact bl_alloc (bl_alloc (bl_alloc HB1.out _) _) _
  | [x, y], hk2, hRv, HP =>
    have HRv : Hid _ := hRv
    clear hRv hk2
    simp only [pA, pB, List.length_cons, List.length_nil, Nat.zero_add, Nat.reduceAdd] at HP ⊢
    obtain ⟨rb, ro, rfl, r0⟩ := HRv.out w (Below.refl _ _) 0 (by simp [ints])
    obtain ⟨rb', ro', e', r1⟩ := HRv.out w (Below.refl _ _) 1 (by simp [ints])
    simp only [Option.some.injEq, Addr.mk.injEq, and_true] at e'
    obtain ⟨rfl, rfl⟩ := e'
    have r0' : w.cell? ⟨rb, ro, none⟩ = some (.int .i64 (x : Int)) := r0
    have r1' : w.cell? ⟨rb, ro + 1, none⟩ = some (.int .i64 (y : Int)) := r1
    have r3 : ∀ o1 o2 o3, (((w.alloc o1).alloc o2).alloc o3).cell? ⟨rb, ro, none⟩ = some (.int .i64 (x : Int)) := fun o1 o2 o3 => cell_below (bl_alloc (bl_alloc (bl_alloc (Below.refl _ _) o1) o2) o3) r0'
    have r4 : ∀ o1 o2 o3, (((w.alloc o1).alloc o2).alloc o3).cell? ⟨rb, ro + 1, none⟩ = some (.int .i64 (y : Int)) := fun o1 o2 o3 => cell_below (bl_alloc (bl_alloc (bl_alloc (Below.refl _ _) o1) o2) o3) r1'
    clear r0 r1
    cases q with
    | true =>
      go_enter Tryz.func65, Tryz.ntmps65
      go_wp2_with fail
      refine (HP.out _).mono ?_
      rintro e w1 ⟨rfl, rfl⟩
      go_wp2_with fail
      refine (HN.out _).mono ?_
      rintro e w1 ⟨rfl, rfl⟩
      go_wp2
      refine bodyPost_ret (v := .tuple #[.agg #[.string op, .int .i64 (x : Int), .int .i64 (y : Int), .string name, .slice sa nz cz, .string K, .int .i64 n, .slice da nt ct], .bool true]) (by simp [results, Tryz.results65, go_sem]) rfl ⟨by simp, ?_⟩
      exact bl_alloc (bl_alloc (bl_alloc HB1.out _) _) _
    | false =>
      go_enter Tryz.func65, Tryz.ntmps65
      go_wp2_with fail
      refine (HP.out _).mono ?_
      rintro e w1 ⟨rfl, rfl⟩
      go_wp2_with fail
      refine (HN.out _).mono ?_
      rintro e w1 ⟨rfl, rfl⟩
      go_wp2
      refine bodyPost_ret (v := .tuple #[.agg #[.string op, .int .i64 (x : Int), .int .i64 (y : Int), .string em, .slice sa nz cz, .string K, .int .i64 n, .slice da nt ct], .bool true]) (by simp [results, Tryz.results65, go_sem]) rfl ⟨by simp, ?_⟩
      exact bl_alloc (bl_alloc (bl_alloc HB1.out _) _) _
end Go.Proofs.YtadgnafafdfioaaGreatDoor.Gr
