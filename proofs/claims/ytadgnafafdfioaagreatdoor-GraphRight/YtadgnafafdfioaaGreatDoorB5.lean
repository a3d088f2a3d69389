/-
  A STATEMENT OF LOSS: end OF THE BUILDER; take. Conditions: each theorem's own.
-/
import Derived.Test.YtadgnafafdfioaaGreatDoorB4
namespace Go.Proofs.YtadgnafafdfioaaGreatDoor.Gr
open Go.Proofs.YtadgnafafdfioaaGreatDoor.Rd
set_option maxRecDepth 100000
open Go.RowKit Go.Maps Go.ChangeMaps Go.WideMaps
set_option linter.unusedVariables false
set_option linter.unusedSimpArgs false

/-- a statement of loss -/
def stL (σ : St) (s : Rd.Sm) : Except Nat St :=
  match fnds σ.ns s.args with
  | none => .error 5
  | some ks => if 0 ≤ σ.loss then .error 6 else if (sha σ.l (pA ks)).length = 0 then .ok { σ with loss := pA ks } else .error 7
theorem stp_L {σ : St} {s : Rd.Sm} (h : isw s.op lLoss = true) : stp σ s = stL σ s := by
  unfold stp stL
  rw [if_pos h]
  cases fnds σ.ns s.args <;> rfl
/-- the loss told -/
theorem Bs.lossed {w : World} {B D M : Nat} {v : Value} {us : List Value} {σ : St} (h : Bs w B D M v us σ) (k : Int) : Bs (w.setCell ⟨D, 2, none⟩ (.int .i64 k)) B D M v us { σ with loss := k } := by
  have hoth : ∀ j, j ≠ D → (w.setCell ⟨D, 2, none⟩ (.int .i64 k)).heap[j]? = w.heap[j]? := fun j hj => heap_setCell_other _ _ _ _ hj
  refine ⟨h.hD, h.hM, ?_, ?_, ?_⟩
  · rw [heap_setCell_same _ _ _ _ _ _ h.box]; rfl
  · have := h.map
    unfold Mz at this ⊢
    rw [hoth M (Ne.symm h.ne)]; exact this
  · exact h.nodes.off (D := D) h.box (fun c e => by cases e) (fun c e => by cases e) (fun c e => by cases e) (gr_block rfl rfl rfl (by simp) hoth)
set_option maxHeartbeats 8000000 in
theorem end_any (s : Rd.Sm) (σ : St) (B D M : Nat) (v : Value) (us : List Value) (aa sa da : Option Addr) (ca cz ct : Nat) (w : World) (hB : B ≤ w.heap.size) (hσ : Bs w B D M v us σ)
    (hnl : σ.ns.length = σ.l.length) (hls : ∀ i, i < σ.l.length → (σ.l.getD i zn).shape.length ≤ 1000) (hlo : σ.loss = -1 ∨ 0 ≤ σ.loss) (hA : Row w aa (txts s.args)) (ha1 : s.args.length = 1) (ha : ∀ x ∈ s.args, x.size ≤ 20000) :
    Calls Tryz.prog 47 #[.pointer (some ⟨D, 0, none⟩), .agg #[.string s.name, .string s.op, .slice aa s.args.length ca, .slice sa s.dims.length cz, .string s.k, .int .i64 (s.n : Int), .slice da s.data.length ct]] w fun e w' => Stt w' B D M (stL σ s) e ∧ Below B w w' := by
  have HX : Hid (∀ o, Below w.heap.size w (w.alloc o)) := fun o => bl_alloc (Below.refl _ _) o
  have HS : Hid (∀ v', Below w.heap.size w v' → Bs v' B D M v us σ) := fun v' hv => hσ.below hv
  have HFi : Hid (∀ v', Below w.heap.size w v' → Calls Tryz.prog 64 #[.pointer (some ⟨D, 0, none⟩), .slice aa s.args.length ca] v' fun e w' => Fnd w' (fnds σ.ns s.args) e ∧ Below v'.heap.size v' w') := fun v' hv =>
    find_any σ.ns s.args D M aa ca v' (hσ.below hv).c1 (hσ.below hv).map (Row.below hA hv) (by omega) (fun i hi => by
      rw [List.getD_eq_getElem?_getD, List.getElem?_eq_getElem hi]; have := ha _ (List.getElem_mem hi); unfold maxLen; show s.args[i].size ≤ _; omega)
  obtain ⟨ao, c, rfl, hc1, hc2⟩ := hσ.nodes.form
  have hBD := hσ.hD
  have hDl := hσ.lt
  have hks : ∀ ks, fnds σ.ns s.args = some ks → ∃ k, ks = [k] ∧ k < σ.l.length := fun ks h => by
    have h1 := fnds_len h
    rw [ha1] at h1
    match ks, h1 with
    | [k], _ => exact ⟨k, rfl, by have := fnds_lt h k List.mem_cons_self; omega⟩
  clear hσ hA ha
  have HR : Hid (stL σ s = stL σ s) := rfl
  obtain ⟨R, hR⟩ : ∃ R, stL σ s = R := ⟨_, rfl⟩
  have HRr : Hid _ := hR
  rw [hR]
  clear hR HR
  obtain ⟨fo, hfo⟩ : ∃ o, fnds σ.ns s.args = o := ⟨_, rfl⟩
  have HFo : Hid _ := hfo
  rw [hfo] at HFi hks
  clear hfo
  obtain ⟨na, hna⟩ : ∃ m, s.args.length = m := ⟨_, rfl⟩
  obtain ⟨nz, hnz⟩ : ∃ m, s.dims.length = m := ⟨_, rfl⟩
  obtain ⟨nt, hnt⟩ : ∃ m, s.data.length = m := ⟨_, rfl⟩
  obtain ⟨ll, hll⟩ : ∃ m, σ.l.length = m := ⟨_, rfl⟩
  have HLL : Hid _ := hll
  simp only [hna, hnz, hnt] at HFi ⊢
  rw [hll] at hc1 hnl
  simp only [hll] at HS hks hls ⊢
  clear hna hnz hnt hll ha1
  have HLS : Hid _ := hls
  clear hls
  cases fo with
  | none =>
    have HR5 : Hid (R = .error 5) := by have := HRr.out; unfold stL at this; rw [HFo.out] at this; exact this.symm
    clear hks
    go_enter Tryz.func47, Tryz.ntmps47
    go_wp2_with fail
    refine (HFi.out _ (HX.out _)).mono ?_
    rintro e w1 ⟨rfl, h1⟩
    have H1 : Hid _ := (HX.out (.cells #[.string s.name, .string s.op, .slice aa na ca, .slice sa nz cz, .string s.k, .int .i64 (s.n : Int), .slice da nt ct] 41)).trans (h1.mono (HX.out _).size)
    clear h1
    go_wp2
    go_ret
    exact ⟨by rw [HR5.out]; rfl, H1.out.mono hB⟩
  | some ks =>
    obtain ⟨k, rfl, hkl⟩ := hks ks rfl
    have HRk : Hid (R = if 0 ≤ σ.loss then .error 6 else if (sha σ.l (k : Int)).length = 0 then .ok { σ with loss := (k : Int) } else .error 7) := by have := HRr.out; unfold stL at this; rw [HFo.out] at this; exact this.symm
    have HFk : Hid (∀ v', Below w.heap.size w v' → Calls Tryz.prog 64 #[.pointer (some ⟨D, 0, none⟩), .slice aa na ca] v' fun e w' => (∃ a c, e = .returned (.tuple #[.slice a 1 c, .bool true]) ∧ Sp.Sl w' a (ints [k])) ∧ Below v'.heap.size v' w') := fun v' hv => HFi.out v' hv
    clear HFi hks
    go_enter Tryz.func47, Tryz.ntmps47
    go_wp2_with fail
    refine (HFk.out _ (HX.out _)).mono ?_
    rintro e w1 ⟨⟨ra, rc, rfl, hs1⟩, h1⟩
    have H1 : Hid (Below w.heap.size w w1) := (HX.out (.cells #[.string s.name, .string s.op, .slice aa na ca, .slice sa nz cz, .string s.k, .int .i64 (s.n : Int), .slice da nt ct] 41)).trans (h1.mono (HX.out _).size)
    clear h1
    obtain ⟨rb, ro, rfl, r0⟩ := hs1 0 (by simp [ints])
    have r0' : w1.cell? ⟨rb, ro, none⟩ = some (.int .i64 (k : Int)) := r0
    have hb1 := HS.out w1 H1.out
    have d0 := hb1.c0
    have d2 := hb1.c2
    have f2 := hb1.frz 2
    have hnl1 := hb1.nodes.nl
    obtain ⟨g, off, sa', sc', rfl, hC, hT⟩ := hnl1.shape (i := k) (by rw [HLL.out]; exact hkl)
    have es : sha σ.l (k : Int) = (σ.l.getD k zn).shape := rfl
    obtain ⟨zl, hzl⟩ : ∃ m, (σ.l.getD k zn).shape.length = m := ⟨_, rfl⟩
    rw [hzl] at hC
    have HZl : Hid ((sha σ.l (k : Int)).length = zl) := by rw [es]; exact hzl
    have HLo : Hid _ := hlo
    clear hs1 r0 hb1 hnl1 hT es hzl
    obtain ⟨lo, hloe⟩ : ∃ z, σ.loss = z := ⟨_, rfl⟩
    have HLe : Hid _ := hloe
    simp only [hloe] at d2 hlo
    clear hloe
    by_cases h0 : 0 ≤ lo
    · have HR6 : Hid (R = .error 6) := by rw [HRk.out, if_pos (by rw [HLe.out]; exact h0)]; exact rfl
      have hl1 : (lo != -1) = true := by simp; omega
      have hl2 : (lo == -1) = false := by simp; omega
      go_wp2
      go_ret
      exact ⟨by rw [HR6.out]; rfl, H1.out.mono hB⟩
    · have hlm : lo = -1 := by omega
      subst hlm
      by_cases hz : zl = 0
      · subst hz
        have hHR0 : R = .ok { σ with loss := (k : Int) } := by rw [HRk.out, if_neg (by rw [HLe.out]; decide), if_pos HZl.out]
        have HR0 : Hid _ := hHR0
        clear hHR0
        go_upto_region 6 with fail
        go_quiet (fail)
        go_wp2
        go_ret
        refine ⟨?_, ((bl_n H1.out _).mono hB).setCell hBD _⟩
        rw [HR0.out]
        exact ⟨rfl, _, _, Bs.lossed (Bs.below (HS.out w1 H1.out) (bl_n (Below.refl _ _) _)) _⟩
      · have HR7 : Hid (R = .error 7) := by rw [HRk.out, if_neg (by rw [HLe.out]; decide), if_neg (by rw [HZl.out]; exact hz)]; exact rfl
        have hz1 : ((zl : Int) != 0) = true := by simp; omega
        have hz2 : ((zl : Int) == 0) = false := by simp; omega
        go_upto_region 6 with fail
        go_quiet (fail)
        go_wp2
        go_ret
        exact ⟨by rw [HR7.out]; rfl, (bl_n H1.out _).mono hB⟩
set_option maxHeartbeats 4000000 in
theorem take_any (s : Rd.Sm) (σ : St) (B D M : Nat) (v : Value) (us : List Value) (aa sa da : Option Addr) (ca cz ct : Nat) (aF aZ : Addr) (w : World) (hE : Er w aF aZ) (hB : B ≤ w.heap.size) (hσ : Bs w B D M v us σ) (hok : Ok σ) (hps : Pst s)
    (hA : Row w aa (txts s.args)) (hZ : Sp.Sl w sa s.dims) (hD : Row w da (txts s.data))
    (hn : s.name.size ≤ 20000) (ha : ∀ x ∈ s.args, x.size ≤ 20000) (hz : s.dims.length ≤ 1000) (hk : s.k.size ≤ 20000) (hdl : s.data.length ≤ 1000000) (hds : ∀ x ∈ s.data, x.size ≤ 20000) :
    Calls Tryz.prog 31 #[.pointer (some ⟨D, 0, none⟩), .agg #[.string s.name, .string s.op, .slice aa s.args.length ca, .slice sa s.dims.length cz, .string s.k, .int .i64 (s.n : Int), .slice da s.data.length ct]] w fun e w' => Stt w' B D M (stp σ s) e ∧ Below B w w' := by
  have HX : Hid (∀ o, Below w.heap.size w (w.alloc o)) := fun o => bl_alloc (Below.refl _ _) o
  have hrg : ∀ i, i < σ.l.length → Sp.Rgt (σ.l.getD i zn).shape := fun i hi => rgt_at hok.right hi
  have hdec : ∀ (u : World) (R : Except Nat St) (e : Ending), Stt u B D M R e → ∃ n : Int, e = .returned (.int .i64 n) := fun u R e h => by
    cases R with
    | ok τ => exact ⟨0, h.1⟩
    | error c => exact ⟨_, h⟩
  have HDc : Hid _ := hdec
  clear hdec
  unfold Pst at hps
  cases hl : isw s.op lLoss with
  | true =>
    rw [stp_L hl]
    rw [if_pos hl] at hps
    have HG : Hid (∀ v', Below w.heap.size w v' → Calls Tryz.prog 47 #[.pointer (some ⟨D, 0, none⟩), .agg #[.string s.name, .string s.op, .slice aa s.args.length ca, .slice sa s.dims.length cz, .string s.k, .int .i64 (s.n : Int), .slice da s.data.length ct]] v' fun e w' => Stt w' B D M (stL σ s) e ∧ Below B v' w') := fun v' hv =>
      end_any s σ B D M v us aa sa da ca cz ct v' (Nat.le_trans hB hv.size) (hσ.below hv) hok.len (fun i hi => by have := (hrg i hi).1; omega) (by rcases hok.loss with c | c; exact .inl c; exact .inr (inl_iff.1 c.1).1) (Row.below hA hv) hps ha
    have gl := isw_b hl
    clear hE hσ hok hps hA hZ hD hn ha hz hk hdl hds hl hrg
    generalize stL σ s = R at HG ⊢
    generalize s.args.length = na at HG ⊢
    generalize s.dims.length = nz at HG ⊢
    generalize s.data.length = nt at HG ⊢
    go_enter Tryz.func31, Tryz.ntmps31
    go_wp2_with fail
    refine (HG.out _ (HX.out _)).mono ?_
    rintro e w1 ⟨hs, h1⟩
    obtain ⟨n, rfl⟩ := HDc.out _ _ _ hs
    have HSs : Hid _ := hs
    have H1 : Hid (Below B w w1) := ((HX.out _).mono hB).trans h1
    clear hs h1
    go_wp2
    go_ret
    exact ⟨HSs.out, H1.out⟩
  | false =>
    rw [stp_A hl]
    rw [if_neg (by rw [hl]; decide)] at hps
    have HG : Hid (∀ v', Below w.heap.size w v' → Calls Tryz.prog 48 #[.pointer (some ⟨D, 0, none⟩), .agg #[.string s.name, .string s.op, .slice aa s.args.length ca, .slice sa s.dims.length cz, .string s.k, .int .i64 (s.n : Int), .slice da s.data.length ct]] v' fun e w' => Stt w' B D M (stA σ s) e ∧ Below B v' w') := fun v' hv =>
      add_any s σ B D M v us aa sa da ca cz ct aF aZ v' (hE.below hv) (Nat.le_trans hB hv.size) (hσ.below hv) hrg hok.few hok.len (Row.below hA hv) (sl_below hZ hv) (Row.below hD hv) hps hn ha hz hk hdl hds
    have gl := isw_b hl
    clear hE hσ hok hps hA hZ hD hn ha hz hk hdl hds hl hrg
    generalize stA σ s = R at HG ⊢
    generalize s.args.length = na at HG ⊢
    generalize s.dims.length = nz at HG ⊢
    generalize s.data.length = nt at HG ⊢
    go_enter Tryz.func31, Tryz.ntmps31
    go_wp2_with fail
    refine (HG.out _ (HX.out _)).mono ?_
    rintro e w1 ⟨hs, h1⟩
    obtain ⟨n, rfl⟩ := HDc.out _ _ _ hs
    have HSs : Hid _ := hs
    have H1 : Hid (Below B w w1) := ((HX.out _).mono hB).trans h1
    clear hs h1
    go_wp2
    go_ret
    exact ⟨HSs.out, H1.out⟩
end Go.Proofs.YtadgnafafdfioaaGreatDoor.Gr
