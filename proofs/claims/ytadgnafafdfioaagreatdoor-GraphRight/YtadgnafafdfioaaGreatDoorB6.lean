/-
  Build OF THE PROGRAM. Conditions: each theorem's own.
-/
import Derived.Test.YtadgnafafdfioaaGreatDoorB5
namespace Go.Proofs.YtadgnafafdfioaaGreatDoor.Gr
open Go.Proofs.YtadgnafafdfioaaGreatDoor.Rd
set_option maxRecDepth 100000
open Go.RowKit Go.Maps Go.ChangeMaps Go.WideMaps
set_option linter.unusedVariables false
set_option linter.unusedSimpArgs false

/-- statements in memory -/
def Ssl (w : World) (ao : Option Addr) (L : List Rd.Sm) : Prop := ∀ i, i < L.length → ∃ b off aa ca sa cz da ct, ao = some ⟨b, off, none⟩ ∧ Row w aa (txts (L.getD i zr).args) ∧ Sp.Sl w sa (L.getD i zr).dims ∧ Row w da (txts (L.getD i zr).data) ∧
  w.cell? ⟨b, off + i * 7, none⟩ = some (.string (L.getD i zr).name) ∧ w.cell? ⟨b, off + i * 7 + 1, none⟩ = some (.string (L.getD i zr).op) ∧ w.cell? ⟨b, off + i * 7 + 2, none⟩ = some (.slice aa (L.getD i zr).args.length ca) ∧ w.cell? ⟨b, off + i * 7 + 3, none⟩ = some (.slice sa (L.getD i zr).dims.length cz) ∧
  w.cell? ⟨b, off + i * 7 + 4, none⟩ = some (.string (L.getD i zr).k) ∧ w.cell? ⟨b, off + i * 7 + 5, none⟩ = some (.int .i64 ((L.getD i zr).n : Int)) ∧ w.cell? ⟨b, off + i * 7 + 6, none⟩ = some (.slice da (L.getD i zr).data.length ct)
theorem Ssl.below {w v : World} {ao : Option Addr} {L : List Rd.Sm} (h : Ssl w ao L) (hb : Below w.heap.size w v) : Ssl v ao L := by
  intro i hi
  obtain ⟨b, off, aa, ca, sa, cz, da, ct, e, r1, r2, r3, c0, c1, c2, c3, c4, c5, c6⟩ := h i hi
  exact ⟨b, off, aa, ca, sa, cz, da, ct, e, Row.below r1 hb, sl_below r2 hb, Row.below r3 hb, cell_below hb c0, cell_below hb c1, cell_below hb c2, cell_below hb c3, cell_below hb c4, cell_below hb c5, cell_below hb c6⟩
/-- what a statement may hold at the most -/
def Sb (s : Rd.Sm) : Prop := s.name.size ≤ 20000 ∧ (∀ x ∈ s.args, x.size ≤ 20000) ∧ s.dims.length ≤ 1000 ∧ s.k.size ≤ 20000 ∧ s.data.length ≤ 1000000 ∧ ∀ x ∈ s.data, x.size ≤ 20000
theorem stp_err {σ : St} {s : Rd.Sm} {c : Nat} (h : stp σ s = .error c) : c ≠ 0 := by
  unfold stp at h
  split at h
  · split at h
    · cases h; decide
    · split at h
      · cases h; decide
      · split at h
        · cases h
        · cases h; decide
  · split at h
    · cases h; decide
    · split at h
      · cases h; decide
      · split at h
        · cases h; decide
        · split at h
          · cases h; decide
          · cases h
/-- what Build tells -/
def Bo (w' : World) (B : Nat) (r : Except (Nat × Nat) (List Nd × Int)) (e : Ending) : Prop :=
  match r with
  | .ok (l, loss) => ∃ v us, e = .returned (.tuple #[.agg #[v, .int .i64 loss], .int .i64 0, .int .i64 0]) ∧ Gn w' B v us l
  | .error (i, c) => e = .returned (.tuple #[.agg #[.slice none 0 0, .int .i64 0], .int .i64 (i : Int), .int .i64 (c : Int)])
theorem drop_at (L : List Rd.Sm) (k : Nat) (h : k < L.length) : L.drop k = L.getD k zr :: L.drop (k + 1) := by
  rw [List.drop_eq_getElem_cons h]; simp [List.getD, h]
theorem getD_mem (L : List Rd.Sm) (k : Nat) (h : k < L.length) : L.getD k zr ∈ L := by
  rw [List.getD_eq_getElem?_getD, List.getElem?_eq_getElem h]; exact List.getElem_mem h
set_option maxHeartbeats 16000000 in
theorem Build_any (L : List Rd.Sm) (ao : Option Addr) (c : Nat) (aF aZ : Addr) (w : World) (hE : Er w aF aZ) (hL : Ssl w ao L) (hps : ∀ s ∈ L, Pst s) (hsb : ∀ s ∈ L, Sb s) (hl : L.length ≤ 1000000) :
    Calls Tryz.prog 14 #[.slice ao L.length c] w fun e w' => Bo w' w.heap.size (bld s0 0 L) e ∧ Below w.heap.size w w' := by
  obtain ⟨R, hR⟩ : ∃ R, w.heap.size = R := ⟨_, rfl⟩
  obtain ⟨N, hN⟩ : ∃ N, L.length = N := ⟨_, rfl⟩
  have h0 : Bs (((w.alloc (.cells #[.slice none 0 0, .int .i64 0] 24)).alloc (.map #[] 0)).alloc (.cells #[.slice none 0 0, .map (some (R + 1)), .int .i64 (-1)] 69)) (R + 1) (R + 2) (R + 1) (.slice none 0 0) [] s0 := by
    have e1 : (w.alloc (.cells #[.slice none 0 0, .int .i64 0] 24)).heap.size = R + 1 := by rw [← hR]; simp
    have e2 : ((w.alloc (.cells #[.slice none 0 0, .int .i64 0] 24)).alloc (.map #[] 0)).heap.size = R + 2 := by rw [← hR]; simp
    refine ⟨by omega, by omega, ?_, ?_, Gn.nil _ _⟩
    · have := heap_alloc_new ((w.alloc (.cells #[.slice none 0 0, .int .i64 0] 24)).alloc (.map #[] 0)) (.cells #[.slice none 0 0, .map (some (R + 1)), .int .i64 (-1)] 69)
      rw [e2] at this
      exact this
    · have m0 := Mz.nil (w.alloc (.cells #[.slice none 0 0, .int .i64 0] 24))
      rw [e1] at m0
      exact m0.below (bl_alloc (Below.refl _ _) _) (by rw [e2]; omega)
  have hr0 : (((w.alloc (.cells #[.slice none 0 0, .int .i64 0] 24)).alloc (.map #[] 0)).alloc (.cells #[.slice none 0 0, .map (some (R + 1)), .int .i64 (-1)] 69)).heap[R]? = some (.cells #[.slice none 0 0, .int .i64 0] 24 (0, 0)) := by
    have e1 := heap_alloc_new w (.cells #[.slice none 0 0, .int .i64 0] 24)
    rw [hR] at e1
    have b1 := bl_alloc (bl_alloc (Below.refl (w.alloc (.cells #[.slice none 0 0, .int .i64 0] 24)).heap.size (w.alloc (.cells #[.slice none 0 0, .int .i64 0] 24))) (.map #[] 0)) (.cells #[.slice none 0 0, .map (some (R + 1)), .int .i64 (-1)] 69)
    rw [b1.block R (by rw [← hR]; simp)]
    exact e1
  have hb0 : ∀ o1 o2 o3, Below w.heap.size w (((w.alloc o1).alloc o2).alloc o3) := fun o1 o2 o3 => bl_alloc (bl_alloc (bl_alloc (Below.refl _ _) o1) o2) o3
  have H0 : Hid _ := And.intro h0 (And.intro hr0 hb0)
  have HL : Hid (∀ v, Below w.heap.size w v → Ssl v ao L) := fun v hv => hL.below hv
  have HEr : Hid (∀ v, Below w.heap.size w v → Er v aF aZ) := fun v hv => hE.below hv
  have HPs : Hid _ := hps
  have HSb : Hid _ := hsb
  have HDr : Hid (∀ k, k < L.length → ∀ σ i, bld σ i (L.drop k) = match stp σ (L.getD k zr) with | .ok τ => bld τ (i + 1) (L.drop (k + 1)) | .error c => .error (i, c)) := fun k hk σ i => by rw [drop_at L k hk]; rfl
  have HMe : Hid (∀ k, k < L.length → L.getD k zr ∈ L) := fun k hk => getD_mem L k hk
  have HEnd : Hid (L.drop L.length = []) := List.drop_length
  have hfirst : bld s0 0 L = bld s0 0 (L.drop 0) := rfl
  have HFi : Hid _ := hfirst
  obtain ⟨rs, hrs⟩ : ∃ r, bld s0 0 L = r := ⟨_, rfl⟩
  have HRs : Hid _ := hrs
  rw [hrs]
  rw [hN] at HDr HMe HEnd hl ⊢
  have HN : Hid _ := hN
  have HRR : Hid _ := hR
  clear h0 hr0 hb0 hL hE hps hsb hfirst hrs hN
  have hmm := @run_makeMap Tryz.prog
  go_enter Tryz.func14, Tryz.ntmps14
  go_wp2_with fail
  clear hmm hR
  go_loopw [13] (fun i wr => ∃ (k : Nat) (σ : St) (v : Value) (us : List Value), k ≤ N ∧ i = .int .i64 (k : Int) ∧ rs = bld σ k (L.drop k) ∧ Ok σ ∧ Bs wr (R + 1) (R + 2) (R + 1) v us σ ∧ wr.heap[R]? = some (.cells #[.slice none 0 0, .int .i64 0] 24 (0, 0)) ∧ Below w.heap.size w wr) (fun i _ => N - (intOf i).toNat)
  case atStart => exact ⟨0, s0, _, [], Nat.zero_le _, rfl, by rw [← HRs.out]; exact HFi.out, Ok.zero, H0.out.1, H0.out.2.1, H0.out.2.2 _ _ _⟩
  case round =>
    obtain ⟨k, σ, v, us, hk, rfl, hrs, hok, hbs, hrr, hb⟩ := hrel
    have HQ : Hid _ := hrs
    have HBk : Hid (Below w.heap.size w wr) := hb
    have HBs : Hid _ := hbs
    have HRr : Hid _ := hrr
    have HOk : Hid _ := hok
    have hDl := hbs.lt
    clear hrs hrr hok
    by_cases h : k < N
    · obtain ⟨b, off, aa, ca, sa, cz, da, ct, rfl, r1, r2, r3, c0, c1, c2, c3, c4, c5, c6⟩ := HL.out wr hb k (by rw [HN.out]; exact h)
      obtain ⟨s, hs⟩ : ∃ z, L.getD k zr = z := ⟨_, rfl⟩
      have hmem := HMe.out k h
      have hdr := HDr.out k h σ k
      rw [hs] at r1 r2 r3 c0 c1 c2 c3 c4 c5 c6 hmem hdr
      obtain ⟨b1, b2, b3, b4, b5, b6⟩ := HSb.out s hmem
      have HT : Hid (∀ v', Below wr.heap.size wr v' → Calls Tryz.prog 31 #[.pointer (some ⟨R + 2, 0, none⟩), .agg #[.string s.name, .string s.op, .slice aa s.args.length ca, .slice sa s.dims.length cz, .string s.k, .int .i64 (s.n : Int), .slice da s.data.length ct]] v' fun e w' => Stt w' (R + 1) (R + 2) (R + 1) (stp σ s) e ∧ Below (R + 1) v' w') := fun v' hv =>
        take_any s σ (R + 1) (R + 2) (R + 1) v us aa sa da ca cz ct aF aZ v' (HEr.out v' (HBk.out.trans (hv.mono HBk.out.size))) (by have := hv.size; omega) (Bs.below HBs.out hv) HOk.out (HPs.out s hmem) (Row.below r1 hv) (sl_below r2 hv) (Row.below r3 hv) b1 b2 b3 b4 b5 b6
      have HSt : Hid (∀ τ, stp σ s = .ok τ → Ok τ) := fun τ h => stp_ok (HPs.out s hmem) HOk.out h
      have HSe : Hid (∀ c, stp σ s = .error c → c ≠ 0) := fun c h => stp_err h
      have HDd : Hid _ := hdr
      have HXr : Hid (∀ o, Below wr.heap.size wr (wr.alloc o)) := fun o => bl_alloc (Below.refl _ _) o
      clear hb hs hmem hdr b1 b2 b3 b4 b5 b6 r1 r2 r3 hbs
      obtain ⟨r, hr⟩ : ∃ r, stp σ s = r := ⟨_, rfl⟩
      rw [hr] at HT HSt HSe HDd
      clear hr
      generalize s.args.length = na at *
      generalize s.dims.length = nz at *
      generalize s.data.length = nt at *
      cases r with
      | error cc =>
        have hc0 := HSe.out cc rfl
        have hcc : ((cc : Int) != 0) = true := by simp; omega
        have hcc2 : ((cc : Int) == 0) = false := by simp; omega
        go_wp2_with fail
        refine (HT.out _ (HXr.out _)).mono ?_
        rintro e w1 ⟨he, h1⟩
        obtain rfl : e = .returned (.int .i64 (cc : Int)) := he
        have hrr1 : w1.heap[R]? = some (.cells #[.slice none 0 0, .int .i64 0] 24 (0, 0)) := by
          rw [h1.block R (by omega), (HXr.out _).block R (by omega)]; exact HRr.out
        have z0 : w1.cell? ⟨R, 0, none⟩ = some (.slice none 0 0) := by simp [World.cell?, hrr1]
        have z1 : w1.cell? ⟨R, 1, none⟩ = some (.int .i64 0) := by simp [World.cell?, hrr1]
        have zf : ∀ i, w1.frozen? ⟨R, i, none⟩ = false := fun i => by simp [World.frozen?, hrr1]
        have H1 : Hid (Below w.heap.size w w1) := (HBk.out.trans ((HXr.out _).mono HBk.out.size)).trans (h1.mono (by rw [HRR.out]; omega))
        have HEq : Hid (rs = .error (k, cc)) := by rw [HQ.out, HDd.out]; exact rfl
        clear h1 hrr1 c0 c1 c2 c3 c4 c5 c6
        go_wp2
        refine bodyPost_ret (v := .tuple #[.agg #[.slice none 0 0, .int .i64 0], .int .i64 (k : Int), .int .i64 (cc : Int)]) (by simp [results, Tryz.results14, go_sem, z0, z1]) rfl ⟨by rw [HEq.out]; rfl, (H1.out.setCell (by rw [HRR.out]; exact Nat.le_refl _) _).setCell (by rw [HRR.out]; exact Nat.le_refl _) _⟩
      | ok τ =>
        go_wp2_with fail
        refine (HT.out _ (HXr.out _)).mono ?_
        rintro e w1 ⟨⟨rfl, v', us', hbs'⟩, h1⟩
        have hrr1 : w1.heap[R]? = some (.cells #[.slice none 0 0, .int .i64 0] 24 (0, 0)) := by
          rw [h1.block R (by omega), (HXr.out _).block R (by omega)]; exact HRr.out
        have HR1 : Hid _ := hrr1
        have H1 : Hid (Below w.heap.size w w1) := (HBk.out.trans ((HXr.out _).mono HBk.out.size)).trans (h1.mono (by rw [HRR.out]; omega))
        have HEq : Hid (rs = bld τ (k + 1) (L.drop (k + 1))) := by rw [HQ.out, HDd.out]; exact rfl
        have HB2 : Hid _ := hbs'
        clear h1 hrr1 c0 c1 c2 c3 c4 c5 c6 hbs'
        go_wp2
        go_roundw
        case rel => exact ⟨k + 1, τ, v', us', by omega, by go_num, HEq.out, HSt.out τ rfl, HB2.out, HR1.out, H1.out⟩
        case measure => simp [intOf]; omega
    · obtain rfl : k = N := by omega
      have HE2 : Hid (rs = if 0 ≤ σ.loss then .ok (σ.l, σ.loss) else .error (k, 7)) := by rw [HQ.out, HEnd.out]; exact rfl
      have d0 := hbs.c0
      have d2 := hbs.c2
      have z0 : wr.cell? ⟨R, 0, none⟩ = some (.slice none 0 0) := by have := HRr.out; simp [World.cell?, this]
      have z1 : wr.cell? ⟨R, 1, none⟩ = some (.int .i64 0) := by have := HRr.out; simp [World.cell?, this]
      have zf : ∀ i, wr.frozen? ⟨R, i, none⟩ = false := fun i => by have := HRr.out; simp [World.frozen?, this]
      have hlo := HOk.out.loss
      obtain ⟨ao2, c2, rfl, -, -⟩ := hbs.nodes.form
      have HG : Hid (Gn wr (R + 1) _ us σ.l) := hbs.nodes
      obtain ⟨lo, hloe⟩ : ∃ z, σ.loss = z := ⟨_, rfl⟩
      rw [hloe] at d2 hlo HE2
      obtain ⟨ll, hll⟩ : ∃ m, σ.l.length = m := ⟨_, rfl⟩
      have HLL : Hid _ := hll
      rw [hll] at d0 HG
      clear hb hbs hloe
      by_cases h0 : 0 ≤ lo
      · have HE3 : Hid (rs = .ok (σ.l, lo)) := by rw [HE2.out, if_pos h0]; exact rfl
        have hl1 : (lo == -1) = false := by simp; omega
        have hl2 : (lo != -1) = true := by simp; omega
        clear hlo hll
        go_wp2
        refine bodyPost_ret (v := .tuple #[.agg #[.slice ao2 ll c2, .int .i64 lo], .int .i64 0, .int .i64 0]) (by simp [results, Tryz.results14, go_sem, z0, z1]) rfl ⟨?_, (HBk.out.setCell (by rw [HRR.out]; exact Nat.le_refl _) _).setCell (by rw [HRR.out]; exact Nat.le_refl _) _⟩
        rw [HE3.out]
        refine ⟨_, us, rfl, ?_⟩
        have g1 := Gn.off HG.out HRr.out (w' := wr.setCell ⟨R, 0, none⟩ (.slice ao2 ll c2)) (fun c e => by cases e) (fun c e => by cases e) (fun c e => by cases e) (gr_block rfl rfl rfl (by simp) (fun j hj => heap_setCell_other _ _ _ _ hj))
        have hr1 := heap_setCell_same wr R 0 _ _ (.slice ao2 ll c2) HRr.out
        have g2 := Gn.off g1 hr1 (w' := (wr.setCell ⟨R, 0, none⟩ (.slice ao2 ll c2)).setCell ⟨R, 1, none⟩ (.int .i64 lo)) (fun c e => by cases e) (fun c e => by cases e) (fun c e => by cases e) (gr_block rfl rfl rfl (by simp) (fun j hj => heap_setCell_other _ _ _ _ hj))
        exact g2.mono (by rw [HRR.out]; omega)
      · have hlm : lo = -1 := by
          rcases hlo with c | ⟨c, _⟩
          · exact c
          · exact absurd (inl_iff.1 c).1 h0
        subst hlm
        have HE3 : Hid (rs = .error (k, 7)) := by rw [HE2.out, if_neg (by decide)]; exact rfl
        clear hlo hll
        go_wp2
        refine bodyPost_ret (v := .tuple #[.agg #[.slice none 0 0, .int .i64 0], .int .i64 (k : Int), .int .i64 7]) (by simp [results, Tryz.results14, go_sem, z0, z1]) rfl ⟨by rw [HE3.out]; rfl, (HBk.out.setCell (by rw [HRR.out]; exact Nat.le_refl _) _).setCell (by rw [HRR.out]; exact Nat.le_refl _) _⟩
end Go.Proofs.YtadgnafafdfioaaGreatDoor.Gr
