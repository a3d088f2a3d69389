/-
  A STATEMENT THAT MAKES A NODE: add OF THE BUILDER. Conditions: each theorem's own.
-/
import Derived.Test.YtadgnafafdfioaaGreatDoorBA
import Derived.Test.YtadgnafafdfioaaGreatDoorGe
import Derived.Deep.RegionLaw
import Derived.Laws.Rows
namespace Go.Proofs.YtadgnafafdfioaaGreatDoor.Gr
open Go.Proofs.YtadgnafafdfioaaGreatDoor.Rd
set_option maxRecDepth 100000
open Go.RowKit Go.Maps Go.ChangeMaps Go.WideMaps
set_option linter.unusedVariables false
set_option linter.unusedSimpArgs false

/-- append onto one's own, as one step of a region that draws -/
theorem step_append {P : Program} {ops : Array Oper} {o : Oper} {a : Act} {w : World} {K : Act → World → Prop} {Q : Exit → Act → World → Prop} {E : Prop} (hg : o.guard = none) (s x : Operand) (t : TypeId)
    (ho : o.op = .call { callee := .builtin .append, args := #[s, x], argTypes := #[t, t] })
    (base : Nat) (e : TypeId) (i : TypeInfo) (z : Value) (size bytes : Nat) (ht : P.underlying t = some (.slice e)) (hi : P.info? e = some i) (hz : i.zero = some z)
    (hsize : i.size = size) (hby : i.bytes = bytes) (hzs : z.cells.size = size) (hsz : 0 < size)
    (v : Value) (n : Nat) (xs : List Value) (hs : a.eval s = v) (hown : w.ownsRow base e size v n xs)
    (ad : Addr) (m c : Nat) (news : List Value) (hx : a.eval x = .slice (some ad) m c) (hl : news.length = m * size) (hnews : ∀ j u, news[j]? = some u → w.cell? (ad.add j) = some u) (h1 : ∀ u ∈ news, u.oneCell' = true)
    (h63 : n + m ≤ maxLen) (hbytes : (n + m) * bytes ≤ 140737488355328) (hbase : base ≤ w.heap.size)
    (h : ∀ v' w', w'.ownsRow base e size v' (n + m) (xs ++ news) → w.grownBy w' v.ownBlock → K (a.put o.dst v') w') : if Region.wanted o (yielded ops a.tmps) = true then Oper.wp P o a w K Q else E := by
  have hw : Region.wanted o (yielded ops a.tmps) = true := by simp [Region.wanted, hg]
  rw [if_pos hw]
  exact wp_append_own w s x t ho base e i z size bytes ht hi hz hsize hby hzs hsz v n xs hs hown ad m c news hx hl hnews h1 h63 hbytes hbase (fun v' w' h1 h2 _ => h v' w' h1 h2)

theorem inf28 : (Tryz.prog.info? 28).map (fun i => (i.zero, i.size, i.bytes)) = some (some (.agg #[.string ⟨#[]⟩, .int .i64 0, .int .i64 0, .string ⟨#[]⟩, .slice none 0 0, .string ⟨#[]⟩, .int .i64 0, .slice none 0 0]), 8, 120) := by kernel_rfl
theorem prv_of {x : ByteArray} {m : Nat} (h : prs x = some m) : prv x = (m : Int) := by unfold prv; rw [h]
/-- a statement of one but loss -/
def stC (σ : St) (s : Rd.Sm) (nd : Nd) : Option (List Int) → Except Nat St
  | none => .error 4
  | some d => .ok { σ with l := σ.l ++ [{ nd with shape := d }], ns := σ.ns ++ [s.name] }
def stD (σ : St) (s : Rd.Sm) (ll : Nat) (nd : Nd) (so : Option (List Int)) : Except Nat St := if ll = 200 then .error 8 else stC σ s nd so
def stA (σ : St) (s : Rd.Sm) : Except Nat St :=
  if (fnd σ.ns s.name).isSome then .error 6
  else match fnds σ.ns s.args with
    | none => .error 5
    | some ks => stD σ s σ.l.length (nod s (pA ks) (pB ks)) (shp σ.l (nod s (pA ks) (pB ks)))
theorem stp_A {σ : St} {s : Rd.Sm} (h : isw s.op lLoss = false) : stp σ s = stA σ s := by
  unfold stp stA stD stC
  rw [if_neg (by rw [h]; decide)]
  by_cases h1 : (fnd σ.ns s.name).isSome = true
  · rw [if_pos h1, if_pos h1]
  · rw [if_neg h1, if_neg h1]
    cases fnds σ.ns s.args with
    | none => rfl
    | some ks =>
      simp only
      by_cases h2 : σ.l.length = 200
      · rw [if_pos h2, if_pos h2]
      · rw [if_neg h2, if_neg h2]
        cases shp σ.l (nod s (pA ks) (pB ks)) <;> rfl
theorem gr_block {w w' : World} {D : Nat} (h1 : w'.os = w.os) (h2 : w'.tape = w.tape) (h3 : w'.output = w.output) (h4 : w.heap.size ≤ w'.heap.size) (h : ∀ k, k ≠ D → w'.heap[k]? = w.heap[k]?) : w.grownBy w' (some D) :=
  ⟨h1, h2, h3, h4, fun k hk hne => h k (fun e => hne (by rw [e]))⟩
theorem own_slice1 {w : World} {B e n : Nat} {v : Value} {xs : List Value} (h : w.ownsRow B e 1 v n xs) : ∃ a c, v = .slice a n c := by
  obtain ⟨a, c', e, _⟩ := Row.of_own h
  exact ⟨a, c', e⟩
theorem own_slice8 {w : World} {B e s n : Nat} {v : Value} {xs : List Value} (h : w.ownsRow B e s v n xs) : ∃ a c, v = .slice a n c := by
  rcases h.2 with ⟨h1, h2⟩ | ⟨g, c, cur, h1, _⟩
  · exact ⟨none, 0, by rw [h1, h2]⟩
  · exact ⟨_, c, h1⟩
/-- a store into a block of another kind leaves a row of one's own -/
theorem own_store {w : World} {b e n D i : Nat} {v x : Value} {xs : List Value} {cs : Array Value} {t : TypeId} (h : w.ownsRow b e 1 v n xs) (hD : w.heap[D]? = some (.cells cs t (0, 0))) (ht : t ≠ e) : (w.setCell ⟨D, i, none⟩ x).ownsRow b e 1 v n xs :=
  h.kept (gr_block rfl rfl rfl (by simp) (fun k hk => heap_setCell_other _ _ _ _ hk)) (own_off h hD (fun c e' => by cases e'; exact ht rfl))
theorem own_setm {w : World} {b e n M : Nat} {v : Value} {xs : List Value} {l : List (ByteArray × Int)} {o : Obj} (h : w.ownsRow b e 1 v n xs) (hM : Mz w M l) : (setBlock w M o).ownsRow b e 1 v n xs :=
  h.kept (gr_block rfl rfl rfl (by simp [setBlock]) (fun k hk => by unfold setBlock; rw [Array.getElem?_setIfInBounds_ne (Ne.symm hk)])) (own_off h hM (fun c e' => by cases e'))
/-- what a step of the builder leaves -/
def Stt (w' : World) (B D M : Nat) (r : Except Nat St) (e : Ending) : Prop :=
  match r with
  | .ok τ => e = .returned (.int .i64 0) ∧ ∃ v us, Bs w' B D M v us τ
  | .error c => e = .returned (.int .i64 (c : Int))
/-- a name more in the map -/
theorem Bs.name {w : World} {B D M : Nat} {v : Value} {us : List Value} {σ : St} (h : Bs w B D M v us σ) {x : ByteArray} {ob : Obj} (hm : Mz (setBlock w M ob) M (bps σ.ns 0 ++ [(x, (σ.ns.length : Int))])) :
    Bs (setBlock w M ob) B D M v us { σ with ns := σ.ns ++ [x] } := by
  have hoth : ∀ k, k ≠ M → (setBlock w M ob).heap[k]? = w.heap[k]? := fun k hk => by unfold setBlock; rw [Array.getElem?_setIfInBounds_ne (Ne.symm hk)]
  refine ⟨h.hD, h.hM, by rw [hoth D h.ne]; exact h.box, ?_, ?_⟩
  · have : bps (σ.ns ++ [x]) 0 = bps σ.ns 0 ++ [(x, (σ.ns.length : Int))] := by rw [bps_snoc]; simp
    rw [this]; exact hm
  · refine h.nodes.off (D := M) h.map (fun c e => by cases e) (fun c e => by cases e) (fun c e => by cases e) (gr_block rfl rfl rfl (by simp [setBlock]) hoth)
/-- the nodes replaced -/
theorem Bs.push {w w' : World} {B D M : Nat} {v v' u : Value} {us : List Value} {σ : St} {nd : Nd} (h : Bs w B D M v us σ) (hu : Sn w u nd) (hown : w'.ownsRow B 28 8 v' (σ.l.length + 1) (nflat us ++ ncs u)) (hg : w.grownBy w' v.ownBlock) :
    Bs (w'.setCell ⟨D, 0, none⟩ v') B D M v' (us ++ [u]) { σ with l := σ.l ++ [nd] } := by
  have hne : v.ownBlock = none ∨ v.ownBlock ≠ some D := own_off h.nodes.own h.box (fun c e => by cases e)
  have hneM : v.ownBlock = none ∨ v.ownBlock ≠ some M := own_off h.nodes.own h.map (fun c e => by cases e)
  have hbD : w'.heap[D]? = w.heap[D]? := hg.block D h.lt (by rcases hne with e | e <;> simp [e]; exact fun c => e c.symm)
  have hbM : w'.heap[M]? = w.heap[M]? := hg.block M h.map.lt (by rcases hneM with e | e <;> simp [e]; exact fun c => e c.symm)
  have hb' : w'.heap[D]? = some (.cells #[v, .map (some M), .int .i64 σ.loss] 69 (0, 0)) := by rw [hbD]; exact h.box
  have hoth : ∀ k, k ≠ D → (w'.setCell ⟨D, 0, none⟩ v').heap[k]? = w'.heap[k]? := fun k hk => heap_setCell_other _ _ _ _ hk
  refine ⟨h.hD, h.hM, ?_, ?_, ?_⟩
  · rw [heap_setCell_same _ _ _ _ _ _ hb']; rfl
  · have := h.map
    unfold Mz at this ⊢
    rw [hoth M (Ne.symm h.ne), hbM]; exact this
  · exact (h.nodes.snoc hu hown hg).off (D := D) hb' (fun c e => by cases e) (fun c e => by cases e) (fun c e => by cases e) (gr_block rfl rfl rfl (by simp) hoth)
set_option maxHeartbeats 16000000 in
theorem add_any (s : Rd.Sm) (σ : St) (B D M : Nat) (v : Value) (us : List Value) (aa sa da : Option Addr) (ca cz ct : Nat) (aF aZ : Addr) (w : World) (hE : Er w aF aZ) (hB : B ≤ w.heap.size) (hσ : Bs w B D M v us σ)
    (hok : ∀ i, i < σ.l.length → Sp.Rgt (σ.l.getD i zn).shape) (hlen : σ.l.length ≤ 200) (hnl : σ.ns.length = σ.l.length) (hA : Row w aa (txts s.args)) (hZ : Sp.Sl w sa s.dims) (hD : Row w da (txts s.data)) (hp : prs s.op = some s.args.length)
    (hn : s.name.size ≤ 20000) (ha : ∀ x ∈ s.args, x.size ≤ 20000) (hz : s.dims.length ≤ 1000) (hk : s.k.size ≤ 20000) (hdl : s.data.length ≤ 1000000) (hds : ∀ x ∈ s.data, x.size ≤ 20000) :
    Calls Tryz.prog 48 #[.pointer (some ⟨D, 0, none⟩), .agg #[.string s.name, .string s.op, .slice aa s.args.length ca, .slice sa s.dims.length cz, .string s.k, .int .i64 (s.n : Int), .slice da s.data.length ct]] w fun e w' => Stt w' B D M (stA σ s) e ∧ Below B w w' := by
  obtain ⟨i0, hi, hz0, hz1, hz2⟩ := info_parts inf28
  have hal : s.args.length ≤ 2 := by rcases prs_le hp with h | h | h <;> omega
  have HX : Hid (∀ o, Below w.heap.size w (w.alloc o)) := fun o => bl_alloc (Below.refl _ _) o
  have HEr : Hid (∀ v, Below w.heap.size w v → Er v aF aZ) := fun v hv => hE.below hv
  have HS : Hid (∀ v', Below w.heap.size w v' → Bs v' B D M v us σ) := fun v' hv => hσ.below hv
  have HFi : Hid (∀ v', Below w.heap.size w v' → Calls Tryz.prog 64 #[.pointer (some ⟨D, 0, none⟩), .slice aa s.args.length ca] v' fun e w' => Fnd w' (fnds σ.ns s.args) e ∧ Below v'.heap.size v' w') := fun v' hv =>
    find_any σ.ns s.args D M aa ca v' (hσ.below hv).c1 (hσ.below hv).map (Row.below hA hv) (by omega) (fun i hi => by
      rw [List.getD_eq_getElem?_getD, List.getElem?_eq_getElem hi]; have := ha _ (List.getElem_mem hi); unfold maxLen; show s.args[i].size ≤ _; omega)
  have HNo : Hid (∀ v' ra ks rc, fnds σ.ns s.args = some ks → Sp.Sl v' ra (ints ks) → Calls Tryz.prog 65 #[.agg #[.string s.name, .string s.op, .slice aa s.args.length ca, .slice sa s.dims.length cz, .string s.k, .int .i64 (s.n : Int), .slice da s.data.length ct], .slice ra ks.length rc] v' fun e w' => e = .returned (.tuple #[.agg #[.string s.op, .int .i64 (pA ks), .int .i64 (pB ks), .string (if nmd s.op = true then s.name else em), .slice sa s.dims.length cz, .string s.k, .int .i64 (s.n : Int), .slice da s.data.length ct], .bool true]) ∧ Below v'.heap.size v' w') := fun v' ra ks rc h hR =>
    node_any s.name s.op s.k s.n ks s.args.length ca s.dims.length cz s.data.length ct rc aa sa da ra v' (by rw [prv_of hp, fnds_len h]) hR
  have HIn : Hid (∀ v' ks ao c, Below w.heap.size w v' → v = .slice ao σ.l.length c → Calls Tryz.prog 10 #[.slice ao σ.l.length c, .agg #[.string s.op, .int .i64 (pA ks), .int .i64 (pB ks), .string (if nmd s.op = true then s.name else em), .slice sa s.dims.length cz, .string s.k, .int .i64 (s.n : Int), .slice da s.data.length ct]] v' fun e w' => Shi w' v'.heap.size (shp σ.l (nod s (pA ks) (pB ks))) e ∧ Below v'.heap.size v' w') := fun v' ks ao c hv he => by
    refine Infer_any σ.l (nod s (pA ks) (pB ks)) cz ct c sa da ao aF aZ v' (hE.below hv) ?_ (sl_below hZ hv) (Row.below hD hv) ⟨hz, hdl, hk, ?_, hds⟩ hok
    · have := (hσ.below hv).nodes
      rw [he] at this
      exact this.nl
    · simp only [nod]
      split
      · exact hn
      · exact Nat.zero_le _
  have HCl : Hid (∀ v', Below w.heap.size w v' → Calls Tryz.prog 66 #[.slice da s.data.length ct] v' fun e w' => ∃ u, e = .returned u ∧ w'.ownsRow v'.heap.size 9 1 u s.data.length (txts s.data) ∧ Below v'.heap.size v' w') := fun v' hv => Tn.sclone_any da s.data ct v' hdl (Row.below hD hv)
  have hsz : s.name.size ≤ maxLen := by unfold maxLen; omega
  have HSz : Hid _ := hsz
  clear hsz
  have hfp := bps_fp σ.ns s.name 0
  obtain ⟨ao, c, rfl, hc1, hc2⟩ := hσ.nodes.form
  have hBD := hσ.hD
  have hDl := hσ.lt
  have hMl := hσ.map.lt
  have hBM := hσ.hM
  clear hE hA hZ hD hp hn ha hz hk hdl hds hok hal
  unfold stA
  cases hf : fnd σ.ns s.name with
  | some j =>
    rw [hf] at hfp
    rw [if_pos (show (some j).isSome = true from rfl)]
    have hfp' : fp (bps σ.ns 0) s.name = some (j : Int) := by rw [hfp]; simp
    have y1 : (w.alloc (.cells #[.string s.name, .string s.op, .slice aa s.args.length ca, .slice sa s.dims.length cz, .string s.k, .int .i64 (s.n : Int), .slice da s.data.length ct] 41)).drew.cell? ⟨D, 1, none⟩ = some (.map (some M)) := (HS.out _ (bl_drew (HX.out _))).c1
    have y2 : ∀ o, (w.alloc o).cell? ⟨D, 1, none⟩ = some (.map (some M)) := fun o => (HS.out _ (HX.out o)).c1
    have hlk : ∀ o, (Instr.lookup 50 (.map (some M)) (.string s.name) true).run Tryz.prog (w.alloc o).drew = .ok (.tuple #[.int .i64 (j : Int), .bool true]) (w.alloc o).drew := fun o => Mz.look (P := Tryz.prog) (HS.out _ (bl_drew (HX.out o))).map Tryz.underlying50 Tryz.underlying9 HSz.out hfp'
    clear hf hfp hfp' hσ
    generalize s.args.length = na at *
    generalize s.dims.length = nz at *
    generalize s.data.length = nt at *
    go_enter Tryz.func48, Tryz.ntmps48
    go_upto_region 1 with fail
    go_region
    go_wp2
    go_ret
    exact ⟨rfl, (bl_drew (HX.out _)).mono hB⟩
  | none =>
    rw [hf] at hfp
    rw [if_neg (by simp)]
    have hfp' : fp (bps σ.ns 0) s.name = none := by rw [hfp]; rfl
    have y1 : (w.alloc (.cells #[.string s.name, .string s.op, .slice aa s.args.length ca, .slice sa s.dims.length cz, .string s.k, .int .i64 (s.n : Int), .slice da s.data.length ct] 41)).drew.cell? ⟨D, 1, none⟩ = some (.map (some M)) := (HS.out _ (bl_drew (HX.out _))).c1
    have y2 : ∀ o, (w.alloc o).cell? ⟨D, 1, none⟩ = some (.map (some M)) := fun o => (HS.out _ (HX.out o)).c1
    have hlk : ∀ o, (Instr.lookup 50 (.map (some M)) (.string s.name) true).run Tryz.prog (w.alloc o).drew = .ok (.tuple #[.int .i64 0, .bool false]) (w.alloc o).drew := fun o => Mz.look_no (P := Tryz.prog) (HS.out _ (bl_drew (HX.out o))).map Tryz.underlying50 Tryz.underlying9 HSz.out hfp' (run_zero3b _)
    have HFP : Hid _ := hfp'
    clear hf hfp hfp' hσ
    obtain ⟨fo, hfo⟩ : ∃ o, fnds σ.ns s.args = o := ⟨_, rfl⟩
    rw [hfo] at HFi HNo ⊢
    clear hfo
    have HDA : Hid (s.data.length = s.data.length) := rfl
    obtain ⟨na, hna⟩ : ∃ m, s.args.length = m := ⟨_, rfl⟩
    obtain ⟨nz, hnz⟩ : ∃ m, s.dims.length = m := ⟨_, rfl⟩
    obtain ⟨nt, hnt⟩ : ∃ m, s.data.length = m := ⟨_, rfl⟩
    have HNT : Hid _ := hnt
    obtain ⟨ll, hll⟩ : ∃ m, σ.l.length = m := ⟨_, rfl⟩
    have HLL : Hid _ := hll
    simp only [hna, hnz, hnt] at HFi HNo HIn HCl y1 ⊢
    rw [hll] at HIn hlen hnl hc1
    simp only [hll] at HS ⊢
    clear hna hnz hnt hll HDA
    cases fo with
    | none =>
      clear HNo HIn HCl
      go_enter Tryz.func48, Tryz.ntmps48
      go_upto_region 1 with fail
      go_region
      go_wp2_with fail
      refine (HFi.out _ (bl_drew (HX.out _))).mono ?_
      rintro e w1 ⟨rfl, h1⟩
      have H1 : Hid _ := (bl_drew (HX.out (.cells #[.string s.name, .string s.op, .slice aa na ca, .slice sa nz cz, .string s.k, .int .i64 (s.n : Int), .slice da nt ct] 41))).trans (h1.mono (bl_drew (HX.out _)).size)
      clear h1
      go_wp2
      go_ret
      exact ⟨rfl, H1.out.mono hB⟩
    | some ks =>
      simp only
      have HNk : Hid _ := fun v' ra rc h => HNo.out v' ra ks rc rfl h
      have HIk : Hid _ := fun v' hv => HIn.out v' ks ao c hv rfl
      have HFk : Hid (∀ v', Below w.heap.size w v' → Calls Tryz.prog 64 #[.pointer (some ⟨D, 0, none⟩), .slice aa na ca] v' fun e w' => (∃ a c, e = .returned (.tuple #[.slice a ks.length c, .bool true]) ∧ Sp.Sl w' a (ints ks)) ∧ Below v'.heap.size v' w') := fun v' hv => HFi.out v' hv
      clear HNo HIn HFi
      obtain ⟨nd, hnd⟩ : ∃ z, nod s (pA ks) (pB ks) = z := ⟨_, rfl⟩
      have HND : Hid _ := hnd
      rw [hnd] at HIk
      simp only [hnd]
      clear hnd
      obtain ⟨kn, hkn⟩ : ∃ m, ks.length = m := ⟨_, rfl⟩
      rw [hkn] at HNk HFk
      clear hkn
      obtain ⟨so, hso⟩ : ∃ o, shp σ.l nd = o := ⟨_, rfl⟩
      rw [hso] at HIk ⊢
      clear hso
      obtain ⟨kA, hkA⟩ : ∃ z, pA ks = z := ⟨_, rfl⟩
      obtain ⟨kB, hkB⟩ : ∃ z, pB ks = z := ⟨_, rfl⟩
      obtain ⟨nm, hnm⟩ : ∃ z, (if nmd s.op = true then s.name else em) = z := ⟨_, rfl⟩
      rw [hkA, hkB, hnm] at HNk HIk
      have HK3 : Hid _ := And.intro hkA (And.intro hkB hnm)
      clear hkA hkB hnm
      obtain ⟨R, hR⟩ : ∃ R, stD σ s ll nd so = R := ⟨_, rfl⟩
      have HRr : Hid _ := hR
      rw [hR]
      clear hR
      go_enter Tryz.func48, Tryz.ntmps48
      go_upto_region 1 with fail
      go_region
      go_wp2_with fail
      refine (HFk.out _ (bl_drew (HX.out _))).mono ?_
      rintro e w1 ⟨⟨ra, rc, rfl, hs1⟩, h1⟩
      have H1 : Hid _ := (bl_drew (HX.out (.cells #[.string s.name, .string s.op, .slice aa na ca, .slice sa nz cz, .string s.k, .int .i64 (s.n : Int), .slice da nt ct] 41))).trans (h1.mono (bl_drew (HX.out _)).size)
      have hx1 : w1.heap[w.heap.size]? = some (.cells #[.string s.name, .string s.op, .slice aa na ca, .slice sa nz cz, .string s.k, .int .i64 (s.n : Int), .slice da nt ct] 41 (0, 0)) := by rw [h1.block _ (by simp)]; exact heap_alloc_new w _
      have x0 : w1.cell? ⟨w.heap.size, 0, none⟩ = some (.string s.name) := by simp [World.cell?, hx1]
      have x1 : w1.cell? ⟨w.heap.size, 1, none⟩ = some (.string s.op) := by simp [World.cell?, hx1]
      have x2 : w1.cell? ⟨w.heap.size, 2, none⟩ = some (.slice aa na ca) := by simp [World.cell?, hx1]
      have x3 : w1.cell? ⟨w.heap.size, 3, none⟩ = some (.slice sa nz cz) := by simp [World.cell?, hx1]
      have x4 : w1.cell? ⟨w.heap.size, 4, none⟩ = some (.string s.k) := by simp [World.cell?, hx1]
      have x5 : w1.cell? ⟨w.heap.size, 5, none⟩ = some (.int .i64 (s.n : Int)) := by simp [World.cell?, hx1]
      have x6 : w1.cell? ⟨w.heap.size, 6, none⟩ = some (.slice da nt ct) := by simp [World.cell?, hx1]
      have d0 : w1.cell? ⟨D, 0, none⟩ = some (.slice ao ll c) := (HS.out w1 H1.out).c0
      have hNk := HNk.out w1 ra rc hs1
      have HXL : Hid (w.heap.size < w1.heap.size) := (Array.getElem?_eq_some_iff.1 hx1).1
      clear h1 hs1 hlk y1 y2 HNk hx1
      obtain ⟨X, hX⟩ : ∃ X, w.heap.size = X := ⟨_, rfl⟩
      have HXX : Hid _ := hX
      simp only [hX] at x0 x1 x2 x3 x4 x5 x6 ⊢
      clear hX
      by_cases h200 : ll = 200
      · have HR8 : Hid (R = .error 8) := by have := HRr.out; unfold stD at this; rw [if_pos h200] at this; exact this.symm
        go_wp2
        go_ret
        exact ⟨by rw [HR8.out]; rfl, H1.out.mono hB⟩
      · have hl2 : ((ll : Int) == 200) = false := by simp; omega
        have HRn : Hid (R = stC σ s nd so) := by have := HRr.out; unfold stD at this; rw [if_neg h200] at this; exact this.symm
        go_wp2_with fail
        refine hNk.mono ?_
        rintro e w2 ⟨rfl, h2⟩
        have H2 : Hid _ := H1.out.trans (h2.mono H1.out.size)
        have x0' := cell_below h2 x0
        have hd2 := cell_below h2 d0
        have HXL2 : Hid (X < w2.heap.size) := Nat.lt_of_lt_of_le (HXX.out ▸ HXL.out) h2.size
        clear h2 x0 x1 x2 x3 x4 x5 x6 d0 hNk HXL hl2
        have dA : ∀ o, (w2.alloc o).cell? ⟨D, 0, none⟩ = some (.slice ao ll c) := fun o => cell_below (bl_alloc (Below.refl _ _) o) hd2
        have HBy : Hid (∀ o, Below w.heap.size w (w2.alloc o).drew) := fun o => bl_drew (bl_alloc H2.out o)
        have HXY : Hid (∀ o, (w2.alloc o).drew.cell? ⟨X, 0, none⟩ = some (.string s.name)) := fun o => cell_below (bl_alloc (Below.refl _ _) o) x0'
        clear hd2 x0'
        go_upto_region 12 with fail
        cases so with
        | none =>
          go_region_with (go_at_call 10; refine (HIk.out _ (HBy.out _)).mono ?_; rintro e w3 ⟨rfl, h3⟩; have hY3 : w3.heap[w2.heap.size]? = some (.cells #[.string s.op, .int .i64 kA, .int .i64 kB, .string nm, .slice sa nz cz, .string s.k, .int .i64 (s.n : Int), .slice da nt ct] 28 (0, 0)) := (by rw [h3.block _ (by simp)]; exact heap_alloc_new w2 _); have y4 : w3.cell? ⟨w2.heap.size, 4, none⟩ = some (.slice sa nz cz) := (by simp [World.cell?, hY3]); have f4 : w3.frozen? ⟨w2.heap.size, 4, none⟩ = false := (by simp [World.frozen?, hY3]); have H3 : Hid _ := (HBy.out (.cells #[.string s.op, .int .i64 kA, .int .i64 kB, .string nm, .slice sa nz cz, .string s.k, .int .i64 (s.n : Int), .slice da nt ct] 28)).trans (h3.mono (HBy.out _).size); clear h3 hY3)
          all_goals go_wp2
          all_goals go_ret
          all_goals exact ⟨by rw [HRn.out]; rfl, (H3.out.setCell H2.out.size _).mono hB⟩
        | some d =>
          go_region_with (go_at_call 10; refine (HIk.out _ (HBy.out _)).mono ?_; rintro e w3 ⟨⟨a3, c3, rfl, hs3, ho3⟩, h3⟩; have hY3 : w3.heap[w2.heap.size]? = some (.cells #[.string s.op, .int .i64 kA, .int .i64 kB, .string nm, .slice sa nz cz, .string s.k, .int .i64 (s.n : Int), .slice da nt ct] 28 (0, 0)) := (by rw [h3.block _ (by simp)]; exact heap_alloc_new w2 _); have HY3 : Hid _ := hY3; have y4 : w3.cell? ⟨w2.heap.size, 4, none⟩ = some (.slice sa nz cz) := (by simp [World.cell?, hY3]); have f4 : w3.frozen? ⟨w2.heap.size, 4, none⟩ = false := (by simp [World.frozen?, hY3]); have y7 : w3.cell? ⟨w2.heap.size, 7, none⟩ = some (.slice da nt ct) := (by simp [World.cell?, hY3]); have H3 : Hid _ := (HBy.out (.cells #[.string s.op, .int .i64 kA, .int .i64 kB, .string nm, .slice sa nz cz, .string s.k, .int .i64 (s.n : Int), .slice da nt ct] 28)).trans (h3.mono (HBy.out _).size); have HX3 : Hid _ := cell_below h3 (HXY.out (.cells #[.string s.op, .int .i64 kA, .int .i64 kB, .string nm, .slice sa nz cz, .string s.k, .int .i64 (s.n : Int), .slice da nt ct] 28)); have HO3 : Hid _ := ho3; clear h3 hY3 hs3 ho3)
          all_goals
            obtain ⟨dn, hdn⟩ : ∃ m, d.length = m := ⟨_, rfl⟩
            have HDN : Hid _ := hdn
            simp only [hdn] at HO3 ⊢
            clear hdn
            have hcl := HCl.out (w3.setCell ⟨w2.heap.size, 4, none⟩ (.slice a3 dn c3)) (H3.out.setCell H2.out.size _)
            go_wp2_with fail
            refine hcl.mono ?_
            rintro e w4 ⟨u, rfl, ho4, h4⟩
            obtain ⟨a4, c4, rfl⟩ := own_slice1 ho4
            have hYs : (w3.setCell ⟨w2.heap.size, 4, none⟩ (.slice a3 dn c3)).heap[w2.heap.size]? = some (.cells #[.string s.op, .int .i64 kA, .int .i64 kB, .string nm, .slice a3 dn c3, .string s.k, .int .i64 (s.n : Int), .slice da nt ct] 28 (0, 0)) := heap_setCell_same _ _ _ _ _ _ HY3.out
            have hlt : w2.heap.size < w3.heap.size := (Array.getElem?_eq_some_iff.1 HY3.out).1
            have hY4 : w4.heap[w2.heap.size]? = some (.cells #[.string s.op, .int .i64 kA, .int .i64 kB, .string nm, .slice a3 dn c3, .string s.k, .int .i64 (s.n : Int), .slice da nt ct] 28 (0, 0)) := by rw [h4.block _ (by simp; exact hlt)]; exact hYs
            have hY8 : (w4.setCell ⟨w2.heap.size, 7, none⟩ (.slice a4 nt c4)).heap[w2.heap.size]? = some (.cells #[.string s.op, .int .i64 kA, .int .i64 kB, .string nm, .slice a3 dn c3, .string s.k, .int .i64 (s.n : Int), .slice a4 nt c4] 28 (0, 0)) := heap_setCell_same _ _ _ _ _ _ hY4
            have H8 : Hid (Below w.heap.size w (w4.setCell ⟨w2.heap.size, 7, none⟩ (.slice a4 nt c4))) := Below.setCell ((H3.out.setCell H2.out.size _).trans (h4.mono (by have := H3.out.size; simp; exact this))) H2.out.size _
            have hXne : X ≠ w2.heap.size := by have := HXL2.out; omega
            have hX8 : (w4.setCell ⟨w2.heap.size, 7, none⟩ (.slice a4 nt c4)).cell? ⟨X, 0, none⟩ = some (.string s.name) := by
              have e1 : (w3.setCell ⟨w2.heap.size, 4, none⟩ (.slice a3 dn c3)).cell? ⟨X, 0, none⟩ = some (.string s.name) := by
                have := HX3.out
                simp only [World.cell?] at this ⊢
                rw [heap_setCell_other _ _ _ _ hXne]; exact this
              have e2 := cell_below h4 e1
              simp only [World.cell?] at e2 ⊢
              rw [heap_setCell_other _ _ _ _ hXne]; exact e2
            have hO3 : (w4.setCell ⟨w2.heap.size, 7, none⟩ (.slice a4 nt c4)).ownsRow 0 3 1 (.slice a3 dn c3) dn (Tn.nums d) := Lx.own_mono (own_store (Lx.own_below (own_store HO3.out HY3.out (by decide)) h4) hY4 (by decide)) (Nat.zero_le _)
            have hO4 : (w4.setCell ⟨w2.heap.size, 7, none⟩ (.slice a4 nt c4)).ownsRow 0 9 1 (.slice a4 nt c4) nt (txts s.data) := Lx.own_mono (own_store ho4 hY4 (by decide)) (Nat.zero_le _)
            have y7' : w4.cell? ⟨w2.heap.size, 7, none⟩ = some (.slice da nt ct) := by simp [World.cell?, hY4]
            have f7' : w4.frozen? ⟨w2.heap.size, 7, none⟩ = false := by simp [World.frozen?, hY4]
            clear h4 hYs ho4 hcl y4 f4 y7
            go_upto_region 16 with fail
            clear y7' f7'
            generalize w4.setCell ⟨w2.heap.size, 7, none⟩ (.slice a4 nt c4) = w8 at *
            have hs8 := HS.out w8.drew (bl_drew H8.out)
            have d0 := hs8.c0
            have d1 := hs8.c1
            obtain ⟨w9, hput, hM9, ob, hw9⟩ := Mz.put (P := Tryz.prog) (n := (ll : Int)) hs8.map Tryz.underlying50 Tryz.underlying9 HSz.out HFP.out
            have hX8' : w8.drew.cell? ⟨X, 0, none⟩ = some (.string s.name) := hX8
            have hYM : w2.heap.size ≠ M := by have := H2.out.size; omega
            have hb9 : Bs w9 B D M (.slice ao ll c) us { σ with ns := σ.ns ++ [s.name] } := by
              have hM9' := hM9
              rw [hw9] at hM9' ⊢
              exact hs8.name (by rw [hnl]; exact hM9')
            have hY9 : w9.heap[w2.heap.size]? = some (.cells #[.string s.op, .int .i64 kA, .int .i64 kB, .string nm, .slice a3 dn c3, .string s.k, .int .i64 (s.n : Int), .slice a4 nt c4] 28 (0, 0)) := by
              rw [hw9]
              unfold setBlock
              rw [Array.getElem?_setIfInBounds_ne (Ne.symm hYM)]
              exact hY8
            have hP3 : w9.ownsRow 0 3 1 (.slice a3 dn c3) dn (Tn.nums d) := by rw [hw9]; exact own_setm (w := w8.drew) hO3 hs8.map
            have hP4 : w9.ownsRow 0 9 1 (.slice a4 nt c4) nt (txts s.data) := by rw [hw9]; exact own_setm (w := w8.drew) hO4 hs8.map
            have H9 : Hid (Below B w w9) := by
              rw [hw9]
              exact below_set ((bl_drew H8.out).mono hB) hBM _
            clear hw9 hM9
            go_region
            have hsn : Sn w9 (.agg #[.string s.op, .int .i64 kA, .int .i64 kB, .string nm, .slice a3 dn c3, .string s.k, .int .i64 (s.n : Int), .slice a4 nt c4]) { nd with shape := d } := by
              refine ⟨.slice a3 dn c3, .slice a4 nt c4, ?_, ?_, ?_⟩
              · rw [← HND.out]; simp only [nod]; rw [HK3.out.1, HK3.out.2.1, HK3.out.2.2]
              · show w9.ownsRow 0 3 1 (.slice a3 dn c3) d.length (Tn.nums d)
                rw [HDN.out]; exact hP3
              · rw [← HND.out]
                show w9.ownsRow 0 9 1 (.slice a4 nt c4) s.data.length (txts s.data)
                rw [HNT.out]; exact hP4
            have HSn : Hid _ := hsn
            have HB9 : Hid _ := hb9
            have d0 : w9.drew.cell? ⟨D, 0, none⟩ = some (.slice ao ll c) := hb9.c0
            have dA9 : ∀ o, (w9.alloc o).drew.cell? ⟨D, 0, none⟩ = some (.slice ao ll c) := fun o => cell_below (bl_drew (bl_alloc (Below.refl _ _) o)) hb9.c0
            have q0 : w9.drew.cell? ⟨w2.heap.size, 0, none⟩ = some (.string s.op) := by
              show w9.cell? ⟨w2.heap.size, 0, none⟩ = _
              simp [World.cell?, hY9]
            have q1 : w9.drew.cell? ⟨w2.heap.size, 1, none⟩ = some (.int .i64 kA) := by
              show w9.cell? ⟨w2.heap.size, 1, none⟩ = _
              simp [World.cell?, hY9]
            have q2 : w9.drew.cell? ⟨w2.heap.size, 2, none⟩ = some (.int .i64 kB) := by
              show w9.cell? ⟨w2.heap.size, 2, none⟩ = _
              simp [World.cell?, hY9]
            have q3 : w9.drew.cell? ⟨w2.heap.size, 3, none⟩ = some (.string nm) := by
              show w9.cell? ⟨w2.heap.size, 3, none⟩ = _
              simp [World.cell?, hY9]
            have q4 : w9.drew.cell? ⟨w2.heap.size, 4, none⟩ = some (.slice a3 dn c3) := by
              show w9.cell? ⟨w2.heap.size, 4, none⟩ = _
              simp [World.cell?, hY9]
            have q5 : w9.drew.cell? ⟨w2.heap.size, 5, none⟩ = some (.string s.k) := by
              show w9.cell? ⟨w2.heap.size, 5, none⟩ = _
              simp [World.cell?, hY9]
            have q6 : w9.drew.cell? ⟨w2.heap.size, 6, none⟩ = some (.int .i64 (s.n : Int)) := by
              show w9.cell? ⟨w2.heap.size, 6, none⟩ = _
              simp [World.cell?, hY9]
            have q7 : w9.drew.cell? ⟨w2.heap.size, 7, none⟩ = some (.slice a4 nt c4) := by
              show w9.cell? ⟨w2.heap.size, 7, none⟩ = _
              simp [World.cell?, hY9]
            have how : ((w9.alloc (.cells #[.string s.op, .int .i64 kA, .int .i64 kB, .string nm, .slice a3 dn c3, .string s.k, .int .i64 (s.n : Int), .slice a4 nt c4] 28)).drew).ownsRow B 28 8 (.slice ao ll c) ll (nflat us) := by
              have := Lx.own_below hb9.nodes.own (bl_drew (bl_alloc (Below.refl _ _) (.cells #[.string s.op, .int .i64 kA, .int .i64 kB, .string nm, .slice a3 dn c3, .string s.k, .int .i64 (s.n : Int), .slice a4 nt c4] 28)))
              simp only [HLL.out] at this
              exact this
            have HOW : Hid _ := how
            have hnw : ∀ j u, ([.string s.op, .int .i64 kA, .int .i64 kB, .string nm, .slice a3 dn c3, .string s.k, .int .i64 (s.n : Int), .slice a4 nt c4] : List Value)[j]? = some u → ((w9.alloc (.cells #[.string s.op, .int .i64 kA, .int .i64 kB, .string nm, .slice a3 dn c3, .string s.k, .int .i64 (s.n : Int), .slice a4 nt c4] 28)).drew).cell? ((⟨w9.heap.size, 0, none⟩ : Addr).add j) = some u := fun j u hu => by
              rw [row_add, Nat.zero_add]
              exact (World.cell?_alloc_new w9 _ _ j).trans (by simpa using hu)
            have HNW : Hid _ := hnw
            have hDlt : D < ((w9.alloc (.cells #[.string s.op, .int .i64 kA, .int .i64 kB, .string nm, .slice a3 dn c3, .string s.k, .int .i64 (s.n : Int), .slice a4 nt c4] 28)).drew).heap.size := Nat.lt_of_lt_of_le hb9.lt (by simp)
            have hgD : ∀ w', ((w9.alloc (.cells #[.string s.op, .int .i64 kA, .int .i64 kB, .string nm, .slice a3 dn c3, .string s.k, .int .i64 (s.n : Int), .slice a4 nt c4] 28)).drew).grownBy w' (Value.slice ao ll c).ownBlock → w'.heap[D]? = some (.cells #[.slice ao ll c, .map (some M), .int .i64 σ.loss] 69 (0, 0)) := fun w' hg => by
              have hbx := (Bs.below (w' := (w9.alloc (.cells #[.string s.op, .int .i64 kA, .int .i64 kB, .string nm, .slice a3 dn c3, .string s.k, .int .i64 (s.n : Int), .slice a4 nt c4] 28)).drew) hb9 (bl_drew (bl_alloc (Below.refl _ _) _))).box
              have hne : (Value.slice ao ll c).ownBlock = none ∨ (Value.slice ao ll c).ownBlock ≠ some D := own_off how hbx (fun c e => by cases e)
              rw [hg.block D hDlt (by rcases hne with e | e <;> simp [e]; exact fun c => e c.symm)]
              exact hbx
            have HGD : Hid _ := hgD
            have hBw : B ≤ ((w9.alloc (.cells #[.string s.op, .int .i64 kA, .int .i64 kB, .string nm, .slice a3 dn c3, .string s.k, .int .i64 (s.n : Int), .slice a4 nt c4] 28)).drew).heap.size := by omega
            have HBl : Hid (Below B w ((w9.alloc (.cells #[.string s.op, .int .i64 kA, .int .i64 kB, .string nm, .slice a3 dn c3, .string s.k, .int .i64 (s.n : Int), .slice a4 nt c4] 28)).drew)) := bl_n (H9.out.alloc (by have := H9.out.size; omega) _) 1
            clear hput hX8 hX8' hO3 hO4 hY8 hs8 hP3 hP4 hb9 how hnw hgD hsn hY9
            go_upto_region 17 with fail
            go_region_law (first
              | (refine step_append rfl (.tmp 75) (.tmp 77) 22 rfl B 28 i0 _ 8 120 Tryz.underlying22 hi hz0 hz1 hz2 rfl (by decide) (.slice ao ll c) ll (nflat us) rfl HOW.out ⟨w9.heap.size, 0, none⟩ 1 1 [.string s.op, .int .i64 kA, .int .i64 kB, .string nm, .slice a3 dn c3, .string s.k, .int .i64 (s.n : Int), .slice a4 nt c4] rfl rfl HNW.out (by intro u hu; simp only [List.mem_cons, List.not_mem_nil, or_false] at hu; rcases hu with rfl | rfl | rfl | rfl | rfl | rfl | rfl | rfl <;> rfl) (by unfold maxLen; omega) (by omega) hBw (fun v' w' ho' hg' => ?_)
                 obtain ⟨a5, c5, rfl⟩ := own_slice8 ho'
                 have k0 : w'.cell? ⟨D, 0, none⟩ = some (.slice ao ll c) := (by simp [World.cell?, HGD.out w' hg'])
                 have kf : w'.frozen? ⟨D, 0, none⟩ = false := (by simp [World.frozen?, HGD.out w' hg'])
                 have HO' : Hid _ := ho'
                 have HG' : Hid _ := hg'
                 clear ho' hg'))
            all_goals go_wp2
            all_goals go_ret
            all_goals
              refine ⟨?_, (Below.grown HBl.out HG'.out hBw (fun k hk => (World.ownsRow.lt HOW.out k hk).1)).setCell hBD _⟩
              rw [HRn.out]
              refine ⟨rfl, _, _, Bs.push (w := (w9.alloc (.cells #[.string s.op, .int .i64 kA, .int .i64 kB, .string nm, .slice a3 dn c3, .string s.k, .int .i64 (s.n : Int), .slice a4 nt c4] 28)).drew) (Bs.below HB9.out (bl_drew (bl_alloc (Below.refl _ _) _))) (Sn.below HSn.out (bl_drew (bl_alloc (Below.refl _ _) _))) ?_ HG'.out⟩
              have ho5 := HO'.out
              simp only [HLL.out]
              exact ho5
end Go.Proofs.YtadgnafafdfioaaGreatDoor.Gr
