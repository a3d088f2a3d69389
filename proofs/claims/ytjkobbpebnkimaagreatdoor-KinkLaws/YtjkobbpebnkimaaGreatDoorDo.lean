/-
  THE DOCUMENT'S TENSORS, MADE: what a call of the document's Of gives. Conditions: sizes.
-/
import Derived.Test.YtjkobbpebnkimaaGreatDoorDa
import Derived.Deep.RegionLaw
namespace Go.Proofs.YtjkobbpebnkimaaGreatDoor.Tn
set_option maxRecDepth 100000
open Go.RowKit Nm
set_option linter.unusedVariables false

/-- a call of a Go function, as one step of a region that draws -/
theorem step_enter {P : Program} {ops : Array Oper} {o : Oper} {a : Act} {w : World} {K : Act → World → Prop} {Q : Exit → Act → World → Prop} {E : Prop} (hg : o.guard = none) {f : FuncId} {args : Array Value} {Rr : Ending → World → Prop}
    (hrun : (execOp a.eval o).run P w = .ok (.enter f args) w) (hc : Calls P f args w Rr) (hR : ∀ e w', Rr e w' → ∃ v, e = .returned v ∧ K (a.put o.dst v) w') :
    if Region.wanted o (yielded ops a.tmps) = true then Oper.wp P o a w K Q else E := by
  have hw : Region.wanted o (yielded ops a.tmps) = true := by simp [Region.wanted, hg]
  rw [if_pos hw]
  unfold Oper.wp
  rw [hrun]
  refine hc.mono ?_
  intro e w' h
  obtain ⟨v, rfl, hK⟩ := hR e w' h
  exact hK
/-- append onto one's own, as one step of a region that draws -/
theorem step_append {P : Program} {ops : Array Oper} {o : Oper} {a : Act} {w : World} {K : Act → World → Prop} {Q : Exit → Act → World → Prop} {E : Prop} (hg : o.guard = none) (s x : Operand) (t : TypeId)
    (ho : o.op = .call { callee := .builtin .append, args := #[s, x], argTypes := #[t, t] })
    (base : Nat) (e : TypeId) (i : TypeInfo) (z : Value) (size bytes : Nat) (ht : P.underlying t = some (.slice e)) (hi : P.info? e = some i) (hz : i.zero = some z)
    (hsize : i.size = size) (hby : i.bytes = bytes) (hzs : z.cells.size = size) (hsz : 0 < size)
    (v : Value) (n : Nat) (xs : List Value) (hs : a.eval s = v) (hown : w.ownsRow base e size v n xs)
    (ad : Addr) (m c : Nat) (news : List Value) (hx : a.eval x = .slice (some ad) m c) (hl : news.length = m * size) (hnews : ∀ j u, news[j]? = some u → w.cell? (ad.add j) = some u) (h1 : ∀ u ∈ news, u.oneCell' = true)
    (h63 : n + m ≤ maxLen) (hbytes : (n + m) * bytes ≤ 140737488355328) (hbase : base ≤ w.heap.size)
    (h : ∀ v' w', w'.ownsRow base e size v' (n + m) (xs ++ news) → w.grownBy w' v.ownBlock → K (a.put o.dst v') w') : if Region.wanted o (yielded ops a.tmps) = true then Oper.wp P o a w K Q else E := by
  have hw : Region.wanted o (yielded ops a.tmps) = true := by simp [Region.wanted, hg]
  rw [if_pos hw]
  exact wp_append_own w s x t ho base e i z size bytes ht hi hz hsize hby hzs hsz v n xs hs hown ad m c news hx hl hnews h1 h63 hbytes hbase (fun v' w' h1 h2 _ => h v' w' h1 h2)

/-- rationals, as cells -/
def frs (qs : List Rat) : List Value := qs.flatMap fun q => [.string (W q.num), .string (S q.den)]
theorem frs_len (qs : List Rat) : (frs qs).length = qs.length * 2 := by
  induction qs with
  | nil => rfl
  | cons a qs ih => simp only [frs, List.flatMap_cons, List.length_append, List.length_cons, List.length_nil] at *; omega
theorem frs_one (qs : List Rat) : ∀ u ∈ frs qs, u.oneCell' = true := by
  intro u hu
  obtain ⟨q, _, h⟩ := List.mem_flatMap.1 hu
  simp at h
  rcases h with rfl | rfl <;> rfl
theorem frs_app (a b : List Rat) : frs (a ++ b) = frs a ++ frs b := by simp [frs]
theorem frs_at {qs : List Rat} {i : Nat} (h : i < qs.length) : (frs qs)[i * 2]? = some (.string (W (qs.getD i 0).num)) ∧ (frs qs)[i * 2 + 1]? = some (.string (S (qs.getD i 0).den)) := by
  induction qs generalizing i with
  | nil => simp at h
  | cons a qs ih =>
    have e : frs (a :: qs) = .string (W a.num) :: .string (S a.den) :: frs qs := by simp [frs]
    rw [e]
    cases i with
    | zero => simp
    | succ i =>
      have k := ih (i := i) (by simpa using h)
      have e1 : (i + 1) * 2 = i * 2 + 1 + 1 := by omega
      rw [e1]
      simpa using k
theorem row_frs {w : World} {bo : Option Addr} {qs : List Rat} (h : Row w bo (frs qs)) {i : Nat} (hi : i < qs.length) :
    ∃ b off, bo = some ⟨b, off, none⟩ ∧ w.cell? ⟨b, off + i * 2, none⟩ = some (.string (W (qs.getD i 0).num)) ∧ w.cell? ⟨b, off + i * 2 + 1, none⟩ = some (.string (S (qs.getD i 0).den)) := by
  obtain ⟨b, off, e, hc⟩ := h _ _ (frs_at hi).1
  obtain ⟨b', off', e', hc'⟩ := h _ _ (frs_at hi).2
  rw [e] at e'
  cases e'
  exact ⟨b, off, e, hc, hc'⟩
theorem cf61 : ∀ (args : Array Value) (w : World), (callFunc 61 args).run Tryz.prog w = .ok (.enter 61 args) w := fun a w => run_enter Tryz.func61 (by kernel_rfl) rfl a w

theorem run_one {P : Program} {f : Nat} (hcf : ∀ (args : Array Value) (w : World), (callFunc f args).run P w = .ok (.enter f args) w) {o : Oper} {a : Act} {w : World} (x : Operand) (t : TypeId) (ho : o.op = .call { callee := .value (.func f), args := #[x], argTypes := #[t] }) (v : Value) (hv : a.eval x = v) :
    (execOp a.eval o).run P w = .ok (.enter f #[v]) w := by
  have hf : a.eval (.func f) = .func (.func f) #[] #[] := rfl
  simp [execOp, ho, resolve, invoke, Deferred.ofValue, hcf, hv, hf]
theorem run_two {P : Program} {f : Nat} (hcf : ∀ (args : Array Value) (w : World), (callFunc f args).run P w = .ok (.enter f args) w) {o : Oper} {a : Act} {w : World} (x y : Operand) (t s : TypeId) (ho : o.op = .call { callee := .value (.func f), args := #[x, y], argTypes := #[t, s] }) (v u : Value) (hv : a.eval x = v) (hu : a.eval y = u) :
    (execOp a.eval o).run P w = .ok (.enter f #[v, u]) w := by
  have hf : a.eval (.func f) = .func (.func f) #[] #[] := rfl
  simp [execOp, ho, resolve, invoke, Deferred.ofValue, hcf, hv, hu, hf]

/-- Of's own blocks: the answer's place, and the tensor that grows -/
structure Oi (w wr : World) (x0 v : Value) (k : Nat) (L : List Value) : Prop where
  bx : Bx wr w.heap.size
  q0 : wr.cell? ⟨w.heap.size + 1, 0, none⟩ = some x0
  q1 : wr.cell? ⟨w.heap.size + 1, 1, none⟩ = some v
  f1 : wr.frozen? ⟨w.heap.size + 1, 1, none⟩ = false
  ow : wr.ownsRow (w.heap.size + 2) 9 1 v k L
  bl : Below w.heap.size w wr
theorem Oi.lt {w wr : World} {x0 v : Value} {k : Nat} {L : List Value} (h : Oi w wr x0 v k L) : w.heap.size + 1 < wr.heap.size := row_lt h.q1
theorem Oi.block {w wr u w4 : World} {x0 v : Value} {k : Nat} {L : List Value} (h : Oi w wr x0 v k L) (hu : Below wr.heap.size wr u) (hg : u.grownBy w4 v.ownBlock) {b : Nat} (hb : b < w.heap.size + 2) : w4.heap[b]? = wr.heap[b]? := by
  have hl := h.lt
  have hs := hu.size
  rw [hg.block b (by omega) (fun e => by have := (World.ownsRow.lt h.ow _ e.symm).1; omega), hu.block b (by omega)]
theorem Oi.next {w wr u w4 : World} {x0 v v' : Value} {k : Nat} {L L' : List Value} (h : Oi w wr x0 v k L) (hu : Below wr.heap.size wr u) (hg : u.grownBy w4 v.ownBlock) (ho : w4.ownsRow (w.heap.size + 2) 9 1 v' (k + 1) L') :
    Oi w (w4.setCell ⟨w.heap.size + 1, 1, none⟩ v') x0 v' (k + 1) L' := by
  have hl := h.lt
  have hs := hu.size
  have b0 := h.block hu hg (b := w.heap.size) (by omega)
  have b1 := h.block hu hg (b := w.heap.size + 1) (by omega)
  have hx : Bx w4 w.heap.size := ⟨by rw [World.cell?_of_block (w := wr) b0]; exact h.bx.c0, by rw [World.cell?_of_block (w := wr) b0]; exact h.bx.c1, by rw [World.frozen?_of_block (w := wr) b0]; exact h.bx.f0, by rw [World.frozen?_of_block (w := wr) b0]; exact h.bx.f1⟩
  have hc1 : w4.cell? ⟨w.heap.size + 1, 1, none⟩ = some v := by rw [World.cell?_of_block (w := wr) b1]; exact h.q1
  refine ⟨hx.set (by simp) _, ?_, World.cell?_setCell_same _ _ _ hc1, ?_, ownsRow_setCell_other ho (fun e => by have h9 : w.heap.size + 2 ≤ w.heap.size + 1 := (World.ownsRow.lt ho _ e).1; omega) _, ?_⟩
  · rw [World.cell?_setCell_other _ _ _ _ (by intro e; injection e with _ e2; cases e2), World.cell?_of_block (w := wr) b1]; exact h.q0
  · rw [World.frozen?_setCell, World.frozen?_of_block (w := wr) b1]; exact h.f1
  · exact bl_set (((bl_trans h.bl hu)).grown hg (by omega) (fun k hk => by have := (World.ownsRow.lt h.ow _ hk).1; omega)) (by simp) _

set_option maxHeartbeats 4000000 in
theorem of_any (ao bo : Option Addr) (zs : List Int) (qs : List Rat) (c d : Nat) (w : World) (hS : Sp.Sl w ao zs) (hR : Row w bo (frs qs)) (hl : qs.length ≤ 1000) (hb : ∀ q, q ∈ qs → Bd q 20000) :
    Calls Tryz.prog 37 #[.slice ao zs.length c, .slice bo qs.length d] w fun e w' => ∃ c1 b1 d1, e = .returned (.agg #[.slice ao zs.length c1, .slice b1 qs.length d1]) ∧ Row w' b1 (txts (qs.map R)) ∧ Fresh w.heap.size b1 ∧ Below w.heap.size w w' := by
  obtain ⟨i0, hi, hz0, hz1, hz2⟩ := info_parts inf9
  generalize zs.length = m
  obtain ⟨n, hn⟩ : ∃ n, qs.length = n := ⟨_, rfl⟩
  have HR : Hid _ := fun (v : World) (hb : Below w.heap.size w v) i (h : i < qs.length) => row_frs (hR.below hb) h
  have HBd : Hid (∀ i, i < n → Bd (qs.getD i 0) 20000) := fun i h => hb _ (mem_getD qs (by rw [hn]; exact h))
  rw [hn] at HR hl ⊢
  have HN : Hid _ := hn
  clear hS hR hb hn
  go_enter Tryz.func37, Tryz.ntmps37
  go_wp2_with fail
  go_loopw [6] (fun i wr => ∃ (k : Nat) (v : Value), k ≤ n ∧ i = .int .i64 k ∧ Oi w wr (.slice ao m c) v k (txts ((qs.take k).map R))) (fun i _ => n - (intOf i).toNat)
  case atStart => exact ⟨0, .slice none 0 0, by omega, rfl, ⟨(Bx.new w).below (bl_alloc (Below.refl _ _) _), by simp, by simp, by simp, World.ownsRow_nil _ _ _ _, bl_alloc (bl_alloc (Below.refl _ _) _) _⟩⟩
  case round =>
    obtain ⟨k, v, hk, rfl, hO⟩ := hrel
    by_cases h : k < n
    · obtain ⟨b, off, rfl, x0, x1⟩ := HR.out wr hO.bl k h
      have hT := fun (u : World) => rtext_R (qs.getD k 0) u ((HBd.out k h).mono (by omega))
      unfold fr at hT
      have HX : Hid (txts ((qs.take (k + 1)).map R) = txts ((qs.take k).map R) ++ [.string (R (qs.getD k 0))]) := by
        unfold Hid; rw [take_snoc qs (by rw [HN.out]; exact h), List.map_append, txts_app]; rfl
      generalize W (qs.getD k 0).num = P at *
      generalize S (qs.getD k 0).den = Q at *
      generalize R (qs.getD k 0) = X at *
      generalize txts ((qs.take k).map R) = L at *
      have hown2 : ((wr.drew.alloc (.cells #[.string P, .string Q] 51)).alloc (.cells #[.string X] 9)).ownsRow (w.heap.size + 2) 9 1 v k L := World.ownsRow.alloc (World.ownsRow.alloc (w := wr.drew) hO.ow _) _
      have q1 := hO.q1
      have f1 := hO.f1
      have HO : Hid (Oi w wr (.slice ao m c) v k L) := hO
      clear hO
      go_wp2_with fail
      have hnw : ∀ (j : Nat) (u : Value), ([Value.string X] : List Value)[j]? = some u → ((wr.drew.alloc (.cells #[.string P, .string Q] 51)).alloc (.cells #[.string X] 9)).cell? ((⟨wr.heap.size + 1, 0, none⟩ : Addr).add j) = some u := by
        intro j u hj
        match j, hj with
        | 0, hj => simp at hj; subst hj; rw [row_add, World.cell?_alloc_at _ _ _ _ (by simp)]; rfl
        | j + 1, hj => simp at hj
      have hlt := row_lt q1
      have HBL : Hid (w.heap.size + 1 < ((wr.drew.alloc (.cells #[.string P, .string Q] 51)).alloc (.cells #[.string X] 9)).heap.size ∧ ((wr.drew.alloc (.cells #[.string P, .string Q] 51)).alloc (.cells #[.string X] 9)).heap[w.heap.size + 1]? = wr.heap[w.heap.size + 1]?) :=
        ⟨by simp at hlt ⊢; omega, (heap_alloc_old _ _ (by simp at hlt ⊢; omega)).trans (heap_alloc_old _ _ (by simpa using hlt))⟩
      clear hlt
      have y1 : (wr.alloc (.cells #[.string P, .string Q] 51)).cell? ⟨w.heap.size + 1, 1, none⟩ = some v := cell_below (bl_alloc (Below.refl wr.heap.size wr) _) q1
      have y2 : ((wr.alloc (.cells #[.string P, .string Q] 51)).alloc (.cells #[.string X] 9)).cell? ⟨w.heap.size + 1, 1, none⟩ = some v := cell_below (bl_alloc (bl_alloc (Below.refl wr.heap.size wr) _) _) q1
      have HNW : Hid _ := hnw
      have HOW : Hid _ := hown2
      clear hnw hown2
      go_region_law (first
        | (refine step_enter rfl (run_one cf61 (.tmp 20) 51 rfl _ rfl) (hT _) ?_
           rintro e w2 ⟨rfl, rfl⟩
           refine ⟨_, rfl, ?_⟩)
        | (refine step_append rfl (.tmp 16) (.tmp 22) 23 rfl (w.heap.size + 2) 9 i0 (.string ByteArray.empty) 1 16 Tryz.underlying23 hi hz0 hz1 hz2 rfl (by decide) v k L rfl HOW.out ⟨wr.heap.size + 1, 0, none⟩ 1 1 [.string X] rfl rfl HNW.out (by simp [Value.oneCell']) (by unfold maxLen; omega) (by omega) (by simp; have := HO.out.lt; omega) ?_
           intro v' w4 hown4 hgrow4
           have hbl : w4.heap[w.heap.size + 1]? = wr.heap[w.heap.size + 1]? := (hgrow4.block (w.heap.size + 1) HBL.out.1 (fun e => by have := (World.ownsRow.lt HOW.out _ e.symm).1; omega)).trans HBL.out.2
           have hc4 : w4.cell? ⟨w.heap.size + 1, 1, none⟩ = some v := by unfold World.cell?; rw [hbl]; exact q1
           have hf4 : w4.frozen? ⟨w.heap.size + 1, 1, none⟩ = false := by unfold World.frozen?; rw [hbl]; exact f1
           obtain ⟨a4, c4, ev, _⟩ := Row.of_own hown4
           subst ev
           have HG : Hid (w4.ownsRow (w.heap.size + 2) 9 1 (.slice a4 (k + 1) c4) (k + 1) (L ++ [.string X]) ∧ ((wr.drew.alloc (.cells #[.string P, .string Q] 51)).alloc (.cells #[.string X] 9)).grownBy w4 v.ownBlock ∧ w4.heap[w.heap.size + 1]? = wr.heap[w.heap.size + 1]?) := ⟨hown4, hgrow4, hbl⟩
           clear hown4 hgrow4 hbl))
      all_goals
        go_wp2
        refine ⟨⟨k + 1, .slice a4 (k + 1) c4, by omega, by simp, ?_⟩, by simp [intOf]; omega⟩
        rw [HX.out]
        exact HO.out.next (bl_alloc (bl_alloc (bl_drew (Below.refl wr.heap.size wr)) _) _) HG.out.2.1 HG.out.1
    · obtain ⟨b1, d1, ev, hr, _, _, _, hfr⟩ := Row.of_own hO.ow
      subst ev
      have k0 := hO.q0
      have k1 := hO.q1
      have hx0 := hO.bx.c0
      have hx1 := hO.bx.c1
      have hx2 := hO.bx.f0
      have hx3 := hO.bx.f1
      have ek : k = n := by omega
      subst ek
      have HO : Hid (Oi w wr (.slice ao m c) (.slice b1 k d1) k (txts ((qs.take k).map R))) := hO
      have HF : Hid (Row wr b1 (txts ((qs.take k).map R)) ∧ Fresh (w.heap.size + 2) b1) := ⟨hr, fun b off sp e => (hfr b off sp e).2.1⟩
      clear hO hr hfr
      go_wp2
      refine bodyPost_ret (v := .agg #[.slice ao m c, .slice b1 k d1]) (by simp [results, Tryz.results37, go_sem, (two_set HO.out.bx.c0 HO.out.bx.c1 _ _).1, (two_set HO.out.bx.c0 HO.out.bx.c1 _ _).2]) rfl ⟨c, b1, d1, rfl, ?_, ?_, ?_⟩
      · have e1 : qs.take k = qs := List.take_of_length_le (by rw [HN.out]; exact Nat.le_refl _)
        have hr := HF.out.1
        rw [e1] at hr
        exact row_set (row_set hr HF.out.2 (by simp) _) HF.out.2 (by simp) _
      · exact fun b off sp e => by have := HF.out.2 b off sp e; omega
      · exact bl_set (bl_set HO.out.bl (by simp) _) (by simp) _
end Go.Proofs.YtjkobbpebnkimaaGreatDoor.Tn
