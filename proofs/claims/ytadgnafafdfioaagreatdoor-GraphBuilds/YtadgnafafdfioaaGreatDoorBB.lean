/-
  A STATEMENT OF LOSS: end OF THE BUILDER; take. Conditions: each theorem's own.
-/
import Derived.Test.YtadgnafafdfioaaGreatDoorB4
namespace Go.Proofs.YtadgnafafdfioaaGreatDoor.Gr
open Go.Proofs.YtadgnafafdfioaaGreatDoor.Rd
set_option maxRecDepth 100000
open Go.RowKit Go.Maps Go.ChangeMaps Go.WideMaps
set_option linter.unusedVariables false
set_option linter.unusedSimpArgs false

/-- a statement of loss -/
def stL (σ : St) (s : Rd.Sm) : Except Nat St :=
  match fnds σ.ns s.args with
  | none => .error 5
  | some ks => if 0 ≤ σ.loss then .error 6 else if (sha σ.l (pA ks)).length = 0 then .ok { σ with loss := pA ks } else .error 7
theorem stp_L {σ : St} {s : Rd.Sm} (h : isw s.op lLoss = true) : stp σ s = stL σ s := by
  unfold stp stL
  rw [if_pos h]
  cases fnds σ.ns s.args <;> rfl
/-- the loss told -/
theorem Bs.lossed {w : World} {B D M : Nat} {v : Value} {us : List Value} {σ : St} (h : Bs w B D M v us σ) (k : Int) : Bs (w.setCell ⟨D, 2, none⟩ (.int .i64 k)) B D M v us { σ with loss := k } := by
  have hoth : ∀ j, j ≠ D → (w.setCell ⟨D, 2, none⟩ (.int .i64 k)).heap[j]? = w.heap[j]? := fun j hj => heap_setCell_other _ _ _ _ hj
  refine ⟨h.hD, h.hM, ?_, ?_, ?_⟩
  · rw [heap_setCell_same _ _ _ _ _ _ h.box]; rfl
  · have := h.map
    unfold Mz at this ⊢
    rw [hoth M (Ne.symm h.ne)]; exact this
  · exact h.nodes.off (D := D) h.box (fun c e => by cases e) (fun c e => by cases e) (fun c e => by cases e) (gr_block rfl rfl rfl (by simp) hoth)
set_option maxHeartbeats 8000000 in
theorem end_any (s : Rd.Sm) (σ : St) (B D M : Nat) (v : Value) (us : List Value) (aa sa da : Option Addr) (ca cz ct : Nat) (w : World) (hB : B ≤ w.heap.size) (hσ : Bs w B D M v us σ)
    (hnl : σ.ns.length = σ.l.length) (hls : ∀ i, i < σ.l.length → (σ.l.getD i zn).shape.length ≤ 1000) (hlo : σ.loss = -1 ∨ 0 ≤ σ.loss) (hA : Row w aa (txts s.args)) (ha1 : s.args.length = 1) (ha : ∀ x ∈ s.args, x.size ≤ 20000) :
    Calls Tryz.prog 47 #[.pointer (some ⟨D, 0, none⟩), .agg #[.string s.name, .string s.op, .slice aa s.args.length ca, .slice sa s.dims.length cz, .string s.k, .int .i64 (s.n : Int), .slice da s.data.length ct]] w fun e w' => Stt w' B D M (stL σ s) e ∧ Below B w w' := by
  have HX : Hid (∀ o, Below w.heap.size w (w.alloc o)) := fun o => bl_alloc (Below.refl _ _) o
  have HS : Hid (∀ v', Below w.heap.size w v' → Bs v' B D M v us σ) := fun v' hv => hσ.below hv
  have HFi : Hid (∀ v', Below w.heap.size w v' → Calls Tryz.prog 64 #[.pointer (some ⟨D, 0, none⟩), .slice aa s.args.length ca] v' fun e w' => Fnd w' (fnds σ.ns s.args) e ∧ Below v'.heap.size v' w') := fun v' hv =>
    find_any σ.ns s.args D M aa ca v' (hσ.below hv).c1 (hσ.below hv).map (Row.below hA hv) (by omega) (fun i hi => by
      rw [List.getD_eq_getElem?_getD, List.getElem?_eq_getElem hi]; have := ha _ (List.getElem_mem hi); unfold maxLen; show s.args[i].size ≤ _; omega)
  obtain ⟨ao, c, rfl, hc1, hc2⟩ := hσ.nodes.form
  have hBD := hσ.hD
  have hDl := hσ.lt
  have hks : ∀ ks, fnds σ.ns s.args = some ks → ∃ k, ks = [k] ∧ k < σ.l.length := fun ks h => by
    have h1 := fnds_len h
    rw [ha1] at h1
    match ks, h1 with
    | [k], _ => exact ⟨k, rfl, by have := fnds_lt h k List.mem_cons_self; omega⟩
  clear hσ hA ha
  have HR : Hid (stL σ s = stL σ s) := rfl
  obtain ⟨R, hR⟩ : ∃ R, stL σ s = R := ⟨_, rfl⟩
  have HRr : Hid _ := hR
  rw [hR]
  clear hR HR
  obtain ⟨fo, hfo⟩ : ∃ o, fnds σ.ns s.args = o := ⟨_, rfl⟩
  have HFo : Hid _ := hfo
  rw [hfo] at HFi hks
  clear hfo
  obtain ⟨na, hna⟩ : ∃ m, s.args.length = m := ⟨_, rfl⟩
  obtain ⟨nz, hnz⟩ : ∃ m, s.dims.length = m := ⟨_, rfl⟩
  obtain ⟨nt, hnt⟩ : ∃ m, s.data.length = m := ⟨_, rfl⟩
  obtain ⟨ll, hll⟩ : ∃ m, σ.l.length = m := ⟨_, rfl⟩
  have HLL : Hid _ := hll
  simp only [hna, hnz, hnt] at HFi ⊢
  rw [hll] at hc1 hnl
  simp only [hll] at HS hks hls ⊢
  clear hna hnz hnt hll ha1
  have HLS : Hid _ := hls
  clear hls
  cases fo with
  | none =>
    have HR5 : Hid (R = .error 5) := by have := HRr.out; unfold stL at this; rw [HFo.out] at this; exact this.symm
    clear hks
    go_enter Tryz.func47, Tryz.ntmps47
    go_wp2_with fail
    refine (HFi.out _ (HX.out _)).mono ?_
    rintro e w1 ⟨rfl, h1⟩
    have H1 : Hid _ := (HX.out (.cells #[.string s.name, .string s.op, .slice aa na ca, .slice sa nz cz, .string s.k, .int .i64 (s.n : Int), .slice da nt ct] 41)).trans (h1.mono (HX.out _).size)
    clear h1
    go_wp2
    go_ret
    exact ⟨by rw [HR5.out]; rfl, H1.out.mono hB⟩
  | some ks =>
    obtain ⟨k, rfl, hkl⟩ := hks ks rfl
    have HRk : Hid (R = if 0 ≤ σ.loss then .error 6 else if (sha σ.l (k : Int)).length = 0 then .ok { σ with loss := (k : Int) } else .error 7) := by have := HRr.out; unfold stL at this; rw [HFo.out] at this; exact this.symm
    have HFk : Hid (∀ v', Below w.heap.size w v' → Calls Tryz.prog 64 #[.pointer (some ⟨D, 0, none⟩), .slice aa na ca] v' fun e w' => (∃ a c, e = .returned (.tuple #[.slice a 1 c, .bool true]) ∧ Sp.Sl w' a (ints [k])) ∧ Below v'.heap.size v' w') := fun v' hv => HFi.out v' hv
    clear HFi hks
    go_enter Tryz.func47, Tryz.ntmps47
    go_wp2_with fail
    refine (HFk.out _ (HX.out _)).mono ?_
    rintro e w1 ⟨⟨ra, rc, rfl, hs1⟩, h1⟩
    have H1 : Hid (Below w.heap.size w w1) := (HX.out (.cells #[.string s.name, .string s.op, .slice aa na ca, .slice sa nz cz, .string s.k, .int .i64 (s.n : Int), .slice da nt ct] 41)).trans (h1.mono (HX.out _).size)
    clear h1
    obtain ⟨rb, ro, rfl, r0⟩ := hs1 0 (by simp [ints])
    have r0' : w1.cell? ⟨rb, ro, none⟩ = some (.int .i64 (k : Int)) := r0
    have hb1 := HS.out w1 H1.out
    have d0 := hb1.c0
    have d2 := hb1.c2
    have f2 := hb1.frz 2
    have hnl1 := hb1.nodes.nl
    obtain ⟨g, off, sa', sc', rfl, hC, hT⟩ := hnl1.shape (i := k) (by rw [HLL.out]; exact hkl)
    have es : sha σ.l (k : Int) = (σ.l.getD k zn).shape := rfl
    obtain ⟨zl, hzl⟩ : ∃ m, (σ.l.getD k zn).shape.length = m := ⟨_, rfl⟩
    rw [hzl] at hC
    have HZl : Hid ((sha σ.l (k : Int)).length = zl) := by rw [es]; exact hzl
    have HLo : Hid _ := hlo
    clear hs1 r0 hb1 hnl1 hT es hzl
    obtain ⟨lo, hloe⟩ : ∃ z, σ.loss = z := ⟨_, rfl⟩
    have HLe : Hid _ := hloe
    simp only [hloe] at d2 hlo
    clear hloe
    by_cases h0 : 0 ≤ lo
    · have HR6 : Hid (R = .error 6) := by rw [HRk.out, if_pos (by rw [HLe.out]; exact h0)]; exact rfl
      have hl1 : (lo != -1) = true := by simp; omega
      have hl2 : (lo == -1) = false := by simp; omega
      go_wp2
      go_ret
      exact ⟨by rw [HR6.out]; rfl, H1.out.mono hB⟩
    · have hlm : lo = -1 := by omega
      subst hlm
      by_cases hz : zl = 0
      · subst hz
        have hHR0 : R = .ok { σ with loss := (k : Int) } := by rw [HRk.out, if_neg (by rw [HLe.out]; decide), if_pos HZl.out]
        have HR0 : Hid _ := hHR0
        clear hHR0
        go_upto_region 6 with fail
        go_quiet (fail)
        go_wp2
        go_ret
        refine ⟨?_, ((bl_n H1.out _).mono hB).setCell hBD _⟩
        rw [HR0.out]
        exact ⟨rfl, _, _, Bs.lossed (Bs.below (HS.out w1 H1.out) (bl_n (Below.refl _ _) _)) _⟩
      · have HR7 : Hid (R = .error 7) := by rw [HRk.out, if_neg (by rw [HLe.out]; decide), if_neg (by rw [HZl.out]; exact hz)]; exact rfl
        have hz1 : ((zl : Int) != 0) = true := by simp; omega
        have hz2 : ((zl : Int) == 0) = false := by simp; omega
        go_upto_region 6 with fail
        go_quiet (fail)
        go_wp2
        go_ret
        exact ⟨by rw [HR7.out]; rfl, (bl_n H1.out _).mono hB⟩
set_option maxHeartbeats 4000000 in
theorem take_any (s : Rd.Sm) (σ : St) (B D M : Nat) (v : Value) (us : List Value) (aa sa da : Option Addr) (ca cz ct : Nat) (aF aZ : Addr) (w : World) (hE : Er w aF aZ) (hB : B ≤ w.heap.size) (hσ : Bs w B D M v us σ) (hok : Ok σ) (hps : Pst s)
    (hA : Row w aa (txts s.args)) (hZ : Sp.Sl w sa s.dims) (hD : Row w da (txts s.data))
    (hn : s.name.size ≤ 20000) (ha : ∀ x ∈ s.args, x.size ≤ 20000) (hz : s.dims.length ≤ 1000) (hk : s.k.size ≤ 20000) (hdl : s.data.length ≤ 1000000) (hds : ∀ x ∈ s.data, x.size ≤ 20000) :
    Calls Tryz.prog 31 #[.pointer (some ⟨D, 0, none⟩), .agg #[.string s.name, .string s.op, .slice aa s.args.length ca, .slice sa s.dims.length cz, .string s.k, .int .i64 (s.n : Int), .slice da s.data.length ct]] w fun e w' => Stt w' B D M (stp σ s) e ∧ Below B w w' := by
  have HX : Hid (∀ o, Below w.heap.size w (w.alloc o)) := fun o => bl_alloc (Below.refl _ _) o
  have hrg : ∀ i, i < σ.l.length → Sp.Rgt (σ.l.getD i zn).shape := fun i hi => rgt_at hok.right hi
  have hdec : ∀ (u : World) (R : Except Nat St) (e : Ending), Stt u B D M R e → ∃ n : Int, e = .returned (.int .i64 n) := fun u R e h => by
    cases R with
    | ok τ => exact ⟨0, h.1⟩
    | error c => exact ⟨_, h⟩
  have HDc : Hid _ := hdec
  clear hdec
  unfold Pst at hps
  cases hl : isw s.op lLoss with
  | true =>
    rw [stp_L hl]
    rw [if_pos hl] at hps
    have HG : Hid (∀ v', Below w.heap.size w v' → Calls Tryz.prog 47 #[.pointer (some ⟨D, 0, none⟩), .agg #[.string s.name, .string s.op, .slice aa s.args.length ca, .slice sa s.dims.length cz, .string s.k, .int .i64 (s.n : Int), .slice da s.data.length ct]] v' fun e w' => Stt w' B D M (stL σ s) e ∧ Below B v' w') := fun v' hv =>
      end_any s σ B D M v us aa sa da ca cz ct v' (Nat.le_trans hB hv.size) (hσ.below hv) hok.len (fun i hi => by have := (hrg i hi).1; omega) (by rcases hok.loss with c | c; exact .inl c; exact .inr (inl_iff.1 c.1).1) (Row.below hA hv) hps ha
    have gl := isw_b hl
    clear hE hσ hok hps hA hZ hD hn ha hz hk hdl hds hl hrg
    generalize stL σ s = R at HG ⊢
    generalize s.args.length = na at HG ⊢
    generalize s.dims.length = nz at HG ⊢
    generalize s.data.length = nt at HG ⊢
    go_enter Tryz.func31, Tryz.ntmps31
    go_wp2_with fail
    refine (HG.out _ (HX.out _)).mono ?_
    rintro e w1 ⟨hs, h1⟩
    obtain ⟨n, rfl⟩ := HDc.out _ _ _ hs
    have HSs : Hid _ := hs
    have H1 : Hid (Below B w w1) := ((HX.out _).mono hB).trans h1
    clear hs h1
    go_wp2
    go_ret
    exact ⟨HSs.out, H1.out⟩
  | false =>
    rw [stp_A hl]
    rw [if_neg (by rw [hl]; decide)] at hps
    have HG : Hid (∀ v', Below w.heap.size w v' → Calls Tryz.prog 48 #[.pointer (some ⟨D, 0, none⟩), .agg #[.string s.name, .string s.op, .slice aa s.args.length ca, .slice sa s.dims.length cz, .string s.k, .int .i64 (s.n : Int), .slice da s.data.length ct]] v' fun e w' => Stt w' B D M (stA σ s) e ∧ Below B v' w') := fun v' hv =>
      add_any s σ B D M v us aa sa da ca cz ct aF aZ v' (hE.below hv) (Nat.le_trans hB hv.size) (hσ.below hv) hrg hok.few hok.len (Row.below hA hv) (sl_below hZ hv) (Row.below hD hv) hps hn ha hz hk hdl hds
    have gl := isw_b hl
    clear hE hσ hok hps hA hZ hD hn ha hz hk hdl hds hl hrg
    generalize stA σ s = R at HG ⊢
    generalize s.args.length = na at HG ⊢
    generalize s.dims.length = nz at HG ⊢
    generalize s.data.length = nt at HG ⊢
    go_enter Tryz.func31, Tryz.ntmps31
    go_wp2_with fail
    refine (HG.out _ (HX.out _)).mono ?_
    rintro e w1 ⟨hs, h1⟩
    obtain ⟨n, rfl⟩ := HDc.out _ _ _ hs
    have HSs : Hid _ := hs
    have H1 : Hid (Below B w w1) := ((HX.out _).mono hB).trans h1
    clear hs h1
    go_wp2
    go_ret
    exact ⟨HSs.out, H1.out⟩
end Go.Proofs.YtadgnafafdfioaaGreatDoor.Gr
/-
  Build OF THE PROGRAM. Conditions: each theorem's own.
-/
namespace Go.Proofs.YtadgnafafdfioaaGreatDoor.Gr
open Go.Proofs.YtadgnafafdfioaaGreatDoor.Rd
set_option maxRecDepth 100000
open Go.RowKit Go.Maps Go.ChangeMaps Go.WideMaps
set_option linter.unusedVariables false
set_option linter.unusedSimpArgs false

/-- statements in memory -/
def Ssl (w : World) (ao : Option Addr) (L : List Rd.Sm) : Prop := ∀ i, i < L.length → ∃ b off aa ca sa cz da ct, ao = some ⟨b, off, none⟩ ∧ Row w aa (txts (L.getD i zr).args) ∧ Sp.Sl w sa (L.getD i zr).dims ∧ Row w da (txts (L.getD i zr).data) ∧
  w.cell? ⟨b, off + i * 7, none⟩ = some (.string (L.getD i zr).name) ∧ w.cell? ⟨b, off + i * 7 + 1, none⟩ = some (.string (L.getD i zr).op) ∧ w.cell? ⟨b, off + i * 7 + 2, none⟩ = some (.slice aa (L.getD i zr).args.length ca) ∧ w.cell? ⟨b, off + i * 7 + 3, none⟩ = some (.slice sa (L.getD i zr).dims.length cz) ∧
  w.cell? ⟨b, off + i * 7 + 4, none⟩ = some (.string (L.getD i zr).k) ∧ w.cell? ⟨b, off + i * 7 + 5, none⟩ = some (.int .i64 ((L.getD i zr).n : Int)) ∧ w.cell? ⟨b, off + i * 7 + 6, none⟩ = some (.slice da (L.getD i zr).data.length ct)
theorem Ssl.below {w v : World} {ao : Option Addr} {L : List Rd.Sm} (h : Ssl w ao L) (hb : Below w.heap.size w v) : Ssl v ao L := by
  intro i hi
  obtain ⟨b, off, aa, ca, sa, cz, da, ct, e, r1, r2, r3, c0, c1, c2, c3, c4, c5, c6⟩ := h i hi
  exact ⟨b, off, aa, ca, sa, cz, da, ct, e, Row.below r1 hb, sl_below r2 hb, Row.below r3 hb, cell_below hb c0, cell_below hb c1, cell_below hb c2, cell_below hb c3, cell_below hb c4, cell_below hb c5, cell_below hb c6⟩
/-- what a statement may hold at the most -/
def Sb (s : Rd.Sm) : Prop := s.name.size ≤ 20000 ∧ (∀ x ∈ s.args, x.size ≤ 20000) ∧ s.dims.length ≤ 1000 ∧ s.k.size ≤ 20000 ∧ s.data.length ≤ 1000000 ∧ ∀ x ∈ s.data, x.size ≤ 20000
theorem stp_err {σ : St} {s : Rd.Sm} {c : Nat} (h : stp σ s = .error c) : c ≠ 0 := by
  unfold stp at h
  split at h
  · split at h
    · cases h; decide
    · split at h
      · cases h; decide
      · split at h
        · cases h
        · cases h; decide
  · split at h
    · cases h; decide
    · split at h
      · cases h; decide
      · split at h
        · cases h; decide
        · split at h
          · cases h; decide
          · cases h
/-- what Build tells -/
def Bo (w' : World) (B : Nat) (r : Except (Nat × Nat) (List Nd × Int)) (e : Ending) : Prop :=
  match r with
  | .ok (l, loss) => ∃ v us, e = .returned (.tuple #[.agg #[v, .int .i64 loss], .int .i64 0, .int .i64 0]) ∧ Gn w' B v us l
  | .error (i, c) => e = .returned (.tuple #[.agg #[.slice none 0 0, .int .i64 0], .int .i64 (i : Int), .int .i64 (c : Int)])
theorem drop_at (L : List Rd.Sm) (k : Nat) (h : k < L.length) : L.drop k = L.getD k zr :: L.drop (k + 1) := by
  rw [List.drop_eq_getElem_cons h]; simp [List.getD, h]
theorem getD_mem (L : List Rd.Sm) (k : Nat) (h : k < L.length) : L.getD k zr ∈ L := by
  rw [List.getD_eq_getElem?_getD, List.getElem?_eq_getElem h]; exact List.getElem_mem h
set_option maxHeartbeats 16000000 in
theorem Build_any (L : List Rd.Sm) (ao : Option Addr) (c : Nat) (aF aZ : Addr) (w : World) (hE : Er w aF aZ) (hL : Ssl w ao L) (hps : ∀ s ∈ L, Pst s) (hsb : ∀ s ∈ L, Sb s) (hl : L.length ≤ 1000000) :
    Calls Tryz.prog 14 #[.slice ao L.length c] w fun e w' => Bo w' w.heap.size (bld s0 0 L) e ∧ Below w.heap.size w w' := by
  obtain ⟨R, hR⟩ : ∃ R, w.heap.size = R := ⟨_, rfl⟩
  obtain ⟨N, hN⟩ : ∃ N, L.length = N := ⟨_, rfl⟩
  have h0 : Bs (((w.alloc (.cells #[.slice none 0 0, .int .i64 0] 24)).alloc (.map #[] 0)).alloc (.cells #[.slice none 0 0, .map (some (R + 1)), .int .i64 (-1)] 69)) (R + 1) (R + 2) (R + 1) (.slice none 0 0) [] s0 := by
    have e1 : (w.alloc (.cells #[.slice none 0 0, .int .i64 0] 24)).heap.size = R + 1 := by rw [← hR]; simp
    have e2 : ((w.alloc (.cells #[.slice none 0 0, .int .i64 0] 24)).alloc (.map #[] 0)).heap.size = R + 2 := by rw [← hR]; simp
    refine ⟨by omega, by omega, ?_, ?_, Gn.nil _ _⟩
    · have := heap_alloc_new ((w.alloc (.cells #[.slice none 0 0, .int .i64 0] 24)).alloc (.map #[] 0)) (.cells #[.slice none 0 0, .map (some (R + 1)), .int .i64 (-1)] 69)
      rw [e2] at this
      exact this
    · have m0 := Mz.nil (w.alloc (.cells #[.slice none 0 0, .int .i64 0] 24))
      rw [e1] at m0
      exact m0.below (bl_alloc (Below.refl _ _) _) (by rw [e2]; omega)
  have hr0 : (((w.alloc (.cells #[.slice none 0 0, .int .i64 0] 24)).alloc (.map #[] 0)).alloc (.cells #[.slice none 0 0, .map (some (R + 1)), .int .i64 (-1)] 69)).heap[R]? = some (.cells #[.slice none 0 0, .int .i64 0] 24 (0, 0)) := by
    have e1 := heap_alloc_new w (.cells #[.slice none 0 0, .int .i64 0] 24)
    rw [hR] at e1
    have b1 := bl_alloc (bl_alloc (Below.refl (w.alloc (.cells #[.slice none 0 0, .int .i64 0] 24)).heap.size (w.alloc (.cells #[.slice none 0 0, .int .i64 0] 24))) (.map #[] 0)) (.cells #[.slice none 0 0, .map (some (R + 1)), .int .i64 (-1)] 69)
    rw [b1.block R (by rw [← hR]; simp)]
    exact e1
  have hb0 : ∀ o1 o2 o3, Below w.heap.size w (((w.alloc o1).alloc o2).alloc o3) := fun o1 o2 o3 => bl_alloc (bl_alloc (bl_alloc (Below.refl _ _) o1) o2) o3
  have H0 : Hid _ := And.intro h0 (And.intro hr0 hb0)
  have HL : Hid (∀ v, Below w.heap.size w v → Ssl v ao L) := fun v hv => hL.below hv
  have HEr : Hid (∀ v, Below w.heap.size w v → Er v aF aZ) := fun v hv => hE.below hv
  have HPs : Hid _ := hps
  have HSb : Hid _ := hsb
  have HDr : Hid (∀ k, k < L.length → ∀ σ i, bld σ i (L.drop k) = match stp σ (L.getD k zr) with | .ok τ => bld τ (i + 1) (L.drop (k + 1)) | .error c => .error (i, c)) := fun k hk σ i => by rw [drop_at L k hk]; rfl
  have HMe : Hid (∀ k, k < L.length → L.getD k zr ∈ L) := fun k hk => getD_mem L k hk
  have HEnd : Hid (L.drop L.length = []) := List.drop_length
  have hfirst : bld s0 0 L = bld s0 0 (L.drop 0) := rfl
  have HFi : Hid _ := hfirst
  obtain ⟨rs, hrs⟩ : ∃ r, bld s0 0 L = r := ⟨_, rfl⟩
  have HRs : Hid _ := hrs
  rw [hrs]
  rw [hN] at HDr HMe HEnd hl ⊢
  have HN : Hid _ := hN
  have HRR : Hid _ := hR
  clear h0 hr0 hb0 hL hE hps hsb hfirst hrs hN
  have hmm := @run_makeMap Tryz.prog
  go_enter Tryz.func14, Tryz.ntmps14
  go_wp2_with fail
  clear hmm hR
  go_loopw [13] (fun i wr => ∃ (k : Nat) (σ : St) (v : Value) (us : List Value), k ≤ N ∧ i = .int .i64 (k : Int) ∧ rs = bld σ k (L.drop k) ∧ Ok σ ∧ Bs wr (R + 1) (R + 2) (R + 1) v us σ ∧ wr.heap[R]? = some (.cells #[.slice none 0 0, .int .i64 0] 24 (0, 0)) ∧ Below w.heap.size w wr) (fun i _ => N - (intOf i).toNat)
  case atStart => exact ⟨0, s0, _, [], Nat.zero_le _, rfl, by rw [← HRs.out]; exact HFi.out, Ok.zero, H0.out.1, H0.out.2.1, H0.out.2.2 _ _ _⟩
  case round =>
    obtain ⟨k, σ, v, us, hk, rfl, hrs, hok, hbs, hrr, hb⟩ := hrel
    have HQ : Hid _ := hrs
    have HBk : Hid (Below w.heap.size w wr) := hb
    have HBs : Hid _ := hbs
    have HRr : Hid _ := hrr
    have HOk : Hid _ := hok
    have hDl := hbs.lt
    clear hrs hrr hok
    by_cases h : k < N
    · obtain ⟨b, off, aa, ca, sa, cz, da, ct, rfl, r1, r2, r3, c0, c1, c2, c3, c4, c5, c6⟩ := HL.out wr hb k (by rw [HN.out]; exact h)
      obtain ⟨s, hs⟩ : ∃ z, L.getD k zr = z := ⟨_, rfl⟩
      have hmem := HMe.out k h
      have hdr := HDr.out k h σ k
      rw [hs] at r1 r2 r3 c0 c1 c2 c3 c4 c5 c6 hmem hdr
      obtain ⟨b1, b2, b3, b4, b5, b6⟩ := HSb.out s hmem
      have HT : Hid (∀ v', Below wr.heap.size wr v' → Calls Tryz.prog 31 #[.pointer (some ⟨R + 2, 0, none⟩), .agg #[.string s.name, .string s.op, .slice aa s.args.length ca, .slice sa s.dims.length cz, .string s.k, .int .i64 (s.n : Int), .slice da s.data.length ct]] v' fun e w' => Stt w' (R + 1) (R + 2) (R + 1) (stp σ s) e ∧ Below (R + 1) v' w') := fun v' hv =>
        take_any s σ (R + 1) (R + 2) (R + 1) v us aa sa da ca cz ct aF aZ v' (HEr.out v' (HBk.out.trans (hv.mono HBk.out.size))) (by have := hv.size; omega) (Bs.below HBs.out hv) HOk.out (HPs.out s hmem) (Row.below r1 hv) (sl_below r2 hv) (Row.below r3 hv) b1 b2 b3 b4 b5 b6
      have HSt : Hid (∀ τ, stp σ s = .ok τ → Ok τ) := fun τ h => stp_ok (HPs.out s hmem) HOk.out h
      have HSe : Hid (∀ c, stp σ s = .error c → c ≠ 0) := fun c h => stp_err h
      have HDd : Hid _ := hdr
      have HXr : Hid (∀ o, Below wr.heap.size wr (wr.alloc o)) := fun o => bl_alloc (Below.refl _ _) o
      clear hb hs hmem hdr b1 b2 b3 b4 b5 b6 r1 r2 r3 hbs
      obtain ⟨r, hr⟩ : ∃ r, stp σ s = r := ⟨_, rfl⟩
      rw [hr] at HT HSt HSe HDd
      clear hr
      generalize s.args.length = na at *
      generalize s.dims.length = nz at *
      generalize s.data.length = nt at *
      cases r with
      | error cc =>
        have hc0 := HSe.out cc rfl
        have hcc : ((cc : Int) != 0) = true := by simp; omega
        have hcc2 : ((cc : Int) == 0) = false := by simp; omega
        go_wp2_with fail
        refine (HT.out _ (HXr.out _)).mono ?_
        rintro e w1 ⟨he, h1⟩
        obtain rfl : e = .returned (.int .i64 (cc : Int)) := he
        have hrr1 : w1.heap[R]? = some (.cells #[.slice none 0 0, .int .i64 0] 24 (0, 0)) := by
          rw [h1.block R (by omega), (HXr.out _).block R (by omega)]; exact HRr.out
        have z0 : w1.cell? ⟨R, 0, none⟩ = some (.slice none 0 0) := by simp [World.cell?, hrr1]
        have z1 : w1.cell? ⟨R, 1, none⟩ = some (.int .i64 0) := by simp [World.cell?, hrr1]
        have zf : ∀ i, w1.frozen? ⟨R, i, none⟩ = false := fun i => by simp [World.frozen?, hrr1]
        have H1 : Hid (Below w.heap.size w w1) := (HBk.out.trans ((HXr.out _).mono HBk.out.size)).trans (h1.mono (by rw [HRR.out]; omega))
        have HEq : Hid (rs = .error (k, cc)) := by rw [HQ.out, HDd.out]; exact rfl
        clear h1 hrr1 c0 c1 c2 c3 c4 c5 c6
        go_wp2
        refine bodyPost_ret (v := .tuple #[.agg #[.slice none 0 0, .int .i64 0], .int .i64 (k : Int), .int .i64 (cc : Int)]) (by simp [results, Tryz.results14, go_sem, z0, z1]) rfl ⟨by rw [HEq.out]; rfl, (H1.out.setCell (by rw [HRR.out]; exact Nat.le_refl _) _).setCell (by rw [HRR.out]; exact Nat.le_refl _) _⟩
      | ok τ =>
        go_wp2_with fail
        refine (HT.out _ (HXr.out _)).mono ?_
        rintro e w1 ⟨⟨rfl, v', us', hbs'⟩, h1⟩
        have hrr1 : w1.heap[R]? = some (.cells #[.slice none 0 0, .int .i64 0] 24 (0, 0)) := by
          rw [h1.block R (by omega), (HXr.out _).block R (by omega)]; exact HRr.out
        have HR1 : Hid _ := hrr1
        have H1 : Hid (Below w.heap.size w w1) := (HBk.out.trans ((HXr.out _).mono HBk.out.size)).trans (h1.mono (by rw [HRR.out]; omega))
        have HEq : Hid (rs = bld τ (k + 1) (L.drop (k + 1))) := by rw [HQ.out, HDd.out]; exact rfl
        have HB2 : Hid _ := hbs'
        clear h1 hrr1 c0 c1 c2 c3 c4 c5 c6 hbs'
        go_wp2
        go_roundw
        case rel => exact ⟨k + 1, τ, v', us', by omega, by go_num, HEq.out, HSt.out τ rfl, HB2.out, HR1.out, H1.out⟩
        case measure => simp [intOf]; omega
    · obtain rfl : k = N := by omega
      have HE2 : Hid (rs = if 0 ≤ σ.loss then .ok (σ.l, σ.loss) else .error (k, 7)) := by rw [HQ.out, HEnd.out]; exact rfl
      have d0 := hbs.c0
      have d2 := hbs.c2
      have z0 : wr.cell? ⟨R, 0, none⟩ = some (.slice none 0 0) := by have := HRr.out; simp [World.cell?, this]
      have z1 : wr.cell? ⟨R, 1, none⟩ = some (.int .i64 0) := by have := HRr.out; simp [World.cell?, this]
      have zf : ∀ i, wr.frozen? ⟨R, i, none⟩ = false := fun i => by have := HRr.out; simp [World.frozen?, this]
      have hlo := HOk.out.loss
      obtain ⟨ao2, c2, rfl, -, -⟩ := hbs.nodes.form
      have HG : Hid (Gn wr (R + 1) _ us σ.l) := hbs.nodes
      obtain ⟨lo, hloe⟩ : ∃ z, σ.loss = z := ⟨_, rfl⟩
      rw [hloe] at d2 hlo HE2
      obtain ⟨ll, hll⟩ : ∃ m, σ.l.length = m := ⟨_, rfl⟩
      have HLL : Hid _ := hll
      rw [hll] at d0 HG
      clear hb hbs hloe
      by_cases h0 : 0 ≤ lo
      · have HE3 : Hid (rs = .ok (σ.l, lo)) := by rw [HE2.out, if_pos h0]; exact rfl
        have hl1 : (lo == -1) = false := by simp; omega
        have hl2 : (lo != -1) = true := by simp; omega
        clear hlo hll
        go_wp2
        refine bodyPost_ret (v := .tuple #[.agg #[.slice ao2 ll c2, .int .i64 lo], .int .i64 0, .int .i64 0]) (by simp [results, Tryz.results14, go_sem, z0, z1]) rfl ⟨?_, (HBk.out.setCell (by rw [HRR.out]; exact Nat.le_refl _) _).setCell (by rw [HRR.out]; exact Nat.le_refl _) _⟩
        rw [HE3.out]
        refine ⟨_, us, rfl, ?_⟩
        have g1 := Gn.off HG.out HRr.out (w' := wr.setCell ⟨R, 0, none⟩ (.slice ao2 ll c2)) (fun c e => by cases e) (fun c e => by cases e) (fun c e => by cases e) (gr_block rfl rfl rfl (by simp) (fun j hj => heap_setCell_other _ _ _ _ hj))
        have hr1 := heap_setCell_same wr R 0 _ _ (.slice ao2 ll c2) HRr.out
        have g2 := Gn.off g1 hr1 (w' := (wr.setCell ⟨R, 0, none⟩ (.slice ao2 ll c2)).setCell ⟨R, 1, none⟩ (.int .i64 lo)) (fun c e => by cases e) (fun c e => by cases e) (fun c e => by cases e) (gr_block rfl rfl rfl (by simp) (fun j hj => heap_setCell_other _ _ _ _ hj))
        exact g2.mono (by rw [HRR.out]; omega)
      · have hlm : lo = -1 := by
          rcases hlo with c | ⟨c, _⟩
          · exact c
          · exact absurd (inl_iff.1 c).1 h0
        subst hlm
        have HE3 : Hid (rs = .error (k, 7)) := by rw [HE2.out, if_neg (by decide)]; exact rfl
        clear hlo hll
        go_wp2
        refine bodyPost_ret (v := .tuple #[.agg #[.slice none 0 0, .int .i64 0], .int .i64 (k : Int), .int .i64 7]) (by simp [results, Tryz.results14, go_sem, z0, z1]) rfl ⟨by rw [HE3.out]; rfl, (HBk.out.setCell (by rw [HRR.out]; exact Nat.le_refl _) _).setCell (by rw [HRR.out]; exact Nat.le_refl _) _⟩
end Go.Proofs.YtadgnafafdfioaaGreatDoor.Gr
