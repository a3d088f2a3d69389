/-
  WHAT IS BUILT OF A TEXT's STATEMENTS: its nodes are bounded, its errors have numbers; statements in two slices. Conditions: each theorem's own.
-/
import Derived.Test.YtadgnafafdfioaaGreatDoorHa
import Derived.Test.YtadgnafafdfioaaGreatDoorHB
import Derived.Test.YtadgnafafdfioaaGreatDoorGaw
import Derived.Deep.Cut
namespace Go.Proofs.YtadgnafafdfioaaGreatDoor.Gr
open Go.Proofs.YtadgnafafdfioaaGreatDoor.Rd
set_option maxRecDepth 100000
open Go.RowKit
set_option linter.unusedVariables false
set_option linter.unusedSimpArgs false

theorem So.grown2 {w w' : World} {B b2 e2 s2 n2 : Nat} {v v2 : Value} {s : Rd.Sm} {x2 : List Value} (h : So w B v s) (h2 : w.ownsRow b2 e2 s2 v2 n2 x2) (h9 : 9 ≠ e2) (h3 : 3 ≠ e2) (hg : w.grownBy w' v2.ownBlock) : So w' B v s := by
  obtain ⟨ua, ud, ut, e, p1, p2, p3⟩ := h
  exact ⟨ua, ud, ut, e, Lx.own_grown p1 h2 h9 hg, Lx.own_grown p2 h2 h3 hg, Lx.own_grown p3.1 h2 h9 hg, p3.2⟩
theorem Lo.grown2 {w w' : World} {B b2 n2 : Nat} {v v2 : Value} {us : List Value} {ss : List Rd.Sm} {x2 : List Value} (h : Lo w B v us ss) (hp : Rd.Pw w B us ss) (h2 : w.ownsRow b2 42 7 v2 n2 x2) (hg : w.grownBy w' v2.ownBlock) : Lo w' B v us ss ∧ Rd.Pw w' B us ss :=
  ⟨⟨Lx.own_grown h.own h2 (by decide) hg, h.all.mono fun u s h => So.grown2 h h2 (by decide) (by decide) hg⟩, hp.mono fun B u s h => So.grown2 h h2 (by decide) (by decide) hg⟩
theorem Pw.below {w w' : World} {B : Nat} {us : List Value} {ss : List Rd.Sm} (h : Rd.Pw w B us ss) (hb : Below w.heap.size w w') : Rd.Pw w' B us ss := h.mono fun B u s h => h.below hb
theorem flat_take {us : List Value} {k : Nat} {u : Value} (hu : us[k]? = some u) : flat (us.take (k + 1)) = flat (us.take k) ++ cls u := by
  rw [List.take_add_one, hu, flat_app]
  simp [flat]
/-- a statement out of the slice -/
theorem Lo.get2 {w : World} {B : Nat} {v : Value} {us : List Value} {ss : List Rd.Sm} (h : Lo w B v us ss) (hp : Rd.Pw w B us ss) {i : Nat} {s : Rd.Sm} (hi : ss[i]? = some s) :
    ∃ g cap aa ca sa cz da ct, v = .slice (some ⟨g, 0, none⟩) ss.length cap ∧ us[i]? = some (sv s.name s.op (.slice aa s.args.length ca) (.slice sa s.dims.length cz) s.k s.n (.slice da s.data.length ct)) ∧ w.ownsRow B 9 1 (.slice da s.data.length ct) s.data.length (txts s.data) ∧
      w.cell? ⟨g, i * 7, none⟩ = some (.string s.name) ∧ w.cell? ⟨g, i * 7 + 1, none⟩ = some (.string s.op) ∧ w.cell? ⟨g, i * 7 + 2, none⟩ = some (.slice aa s.args.length ca) ∧ w.cell? ⟨g, i * 7 + 3, none⟩ = some (.slice sa s.dims.length cz) ∧
      w.cell? ⟨g, i * 7 + 4, none⟩ = some (.string s.k) ∧ w.cell? ⟨g, i * 7 + 5, none⟩ = some (.int .i64 (s.n : Int)) ∧ w.cell? ⟨g, i * 7 + 6, none⟩ = some (.slice da s.data.length ct) := by
  obtain ⟨u, hu, _, hf⟩ := flat_at h.all hi
  obtain ⟨ua, ud, ut, rfl, p1, p2, p3⟩ := hp.1 i u s hu hi
  obtain ⟨aa, ca, rfl, _⟩ := p1.form
  obtain ⟨sa, cz, rfl, _⟩ := p2.form
  obtain ⟨da, ct, rfl, _⟩ := p3.1.form
  have hil : i < ss.length := (List.getElem?_eq_some_iff.1 hi).1
  rcases h.own.2 with ⟨h1, h2⟩ | ⟨g, c, cur, rfl, h2, h3, h4, h5, _⟩
  · omega
  · have hc : ∀ j x, (cls (sv s.name s.op (.slice aa s.args.length ca) (.slice sa s.dims.length cz) s.k s.n (.slice da s.data.length ct)))[j]? = some x → j < 7 → w.cell? ⟨g, i * 7 + j, none⟩ = some x := fun j x hx hj => by
      rw [h.own.cellAt (i * 7 + j) (by omega)]
      exact (hf j hj).trans hx
    exact ⟨g, c, aa, ca, sa, cz, da, ct, rfl, hu, p3.1, hc 0 _ rfl (by omega), hc 1 _ rfl (by omega), hc 2 _ rfl (by omega), hc 3 _ rfl (by omega), hc 4 _ rfl (by omega), hc 5 _ rfl (by omega), hc 6 _ rfl (by omega)⟩
theorem bld_err : ∀ {L : List Rd.Sm} {σ : St} {i j c : Nat}, bld σ i L = .error (j, c) → c ≠ 0
  | [], σ, i, j, c, h => by
    unfold bld at h
    split at h
    · cases h
    · cases h; decide
  | s :: L, σ, i, j, c, h => by
    unfold bld at h
    cases hs : stp σ s with
    | error e =>
      rw [hs] at h
      cases h
      exact stp_err hs
    | ok τ =>
      rw [hs] at h
      exact bld_err h
theorem stp_nb {σ τ : St} {s : Rd.Sm} (hs : Sb s) (hσ : ∀ x ∈ σ.l, Nb x) (h : stp σ s = .ok τ) : ∀ x ∈ τ.l, Nb x := by
  obtain ⟨b1, b2, b3, b4, b5, b6⟩ := hs
  unfold stp at h
  split at h
  · split at h
    · cases h
    · split at h
      · cases h
      · split at h
        · cases h; exact hσ
        · cases h
  · split at h
    · cases h
    · split at h
      · cases h
      · split at h
        · cases h
        · split at h
          · cases h
          · rename_i d hd
            cases h
            intro x hx
            rcases List.mem_append.1 hx with hx | hx
            · exact hσ x hx
            · simp only [List.mem_singleton] at hx
              subst hx
              refine ⟨by show d.length ≤ 1000; have := (shp_rgt hd).1; omega, b5, b4, ?_, b6⟩
              simp only [nod]
              split
              · exact b1
              · exact Nat.zero_le _
theorem bld_nb : ∀ {L : List Rd.Sm} {σ : St} {i : Nat} {l : List Nd} {loss : Int}, (∀ s ∈ L, Sb s) → (∀ x ∈ σ.l, Nb x) → bld σ i L = .ok (l, loss) → ∀ x ∈ l, Nb x
  | [], σ, i, l, loss, _, hσ, h => by
    unfold bld at h
    split at h
    · cases h; exact hσ
    · cases h
  | s :: L, σ, i, l, loss, hL, hσ, h => by
    unfold bld at h
    cases hs : stp σ s with
    | error e => rw [hs] at h; cases h
    | ok τ =>
      rw [hs] at h
      exact bld_nb (fun s hs => hL s (List.mem_cons_of_mem _ hs)) (stp_nb (hL s (by simp)) hσ hs) h
theorem inf42 : (Tryz.prog.info? 42).map (fun i => (i.zero, i.size, i.bytes)) = some (some zv, 7, 128) := by kernel_rfl
end Go.Proofs.YtadgnafafdfioaaGreatDoor.Gr
/-
  THE WALK OF GraphBuilds: the call gives true. Conditions: each theorem's own.
-/
namespace Go.Proofs.YtadgnafafdfioaaGreatDoor.Gr
open Go.Proofs.YtadgnafafdfioaaGreatDoor.Rd
set_option maxRecDepth 100000
open Go.RowKit
set_option linter.unusedVariables false
set_option linter.unusedSimpArgs false

set_option maxHeartbeats 32000000 in
theorem graphBuilds_ok (t : ByteArray) (aF aZ : Addr) (w : World) (hE : Er w aF aZ) :
    Calls Tryz.prog 4 #[.string t] w fun e w' => e = .returned (.bool true) ∧ Below w.heap.size w w' := by
  have HA : Hid (∀ v, Below w.heap.size w v → Calls Tryz.prog 7 #[] v fun e w' => e = .returned (.bool true) ∧ Below v.heap.size v w') := fun v hv => awake_any aF aZ v (hE.below hv)
  by_cases h10 : 1024 < t.size
  · go_enter Tryz.func4, Tryz.ntmps4
    go_wp2_with fail
    refine (HA.out _ (Below.refl _ _)).mono ?_
    rintro e w2 ⟨rfl, h2⟩
    go_wp2
    go_ret
    exact ⟨rfl, h2⟩
  have hAll := All2_any t aF aZ w hE (by omega)
  have hZ := lns_size t
  have hW := lns_words t
  have hLn := lns_len t
  generalize Lx.lns t.data.toList = L0 at hAll hZ hW hLn
  have HE : Hid (∀ v, Below w.heap.size w v → Er v aF aZ) := fun v hv => hE.below hv
  have hal : ∀ ss, alls L0 = some ss → (∀ s ∈ ss, Pst s) ∧ (∀ s ∈ ss, Sb s) ∧ ss.length ≤ 1025 := fun ss h => ⟨alls_pst h, alls_sb h (fun x hx y hy => by have := hZ x hx y hy; omega) (fun x hx => by have := hW x hx; omega), by rw [alls_len h]; omega⟩
  have HAl : Hid _ := hal
  clear hZ hW hLn hE hal
  obtain ⟨i9, hi9, hz90, hz91, hz92⟩ := info_parts inf9
  obtain ⟨i42, hi42, hz20, hz21, hz22⟩ := info_parts inf42
  go_enter Tryz.func4, Tryz.ntmps4
  go_wp2_with fail
  refine hAll.mono ?_
  rintro e w1 ⟨he, h1⟩
  clear hAll
  have H1 : Hid _ := h1
  clear h1
  unfold Ap at he
  cases ha : alls L0 with
  | none =>
    rw [ha] at he
    obtain rfl := he
    go_wp2_with fail
    refine (HA.out _ H1.out).mono ?_
    rintro e w2 ⟨rfl, h2⟩
    have H2 : Hid _ := H1.out.trans (h2.mono H1.out.size)
    clear h2
    go_wp2
    go_ret
    exact ⟨rfl, H2.out⟩
  | some ss =>
    rw [ha] at he
    obtain ⟨v, us, rfl, hO, hP⟩ := he
    obtain ⟨hps, hsb, h25⟩ := HAl.out ss ha
    obtain ⟨ao, cap, rfl⟩ := hO.form
    have HPs : Hid _ := hps
    have HSb : Hid _ := hsb
    have HLn : Hid (us.length = ss.length) := hO.all.len
    have HO1 : Hid _ := And.intro hO hP
    have HMm : Hid (∀ k, k < ss.length → ss[k]? = some (ss.getD k zr) ∧ ss.getD k zr ∈ ss) := fun k hk => ⟨by simp [List.getD, hk], getD_mem ss k hk⟩
    clear ha hps hsb hO hP HAl
    obtain ⟨N, hN⟩ : ∃ N, ss.length = N := ⟨_, rfl⟩
    have HN : Hid (ss.length = N) := hN
    rw [hN] at h25 HMm
    simp only [hN]
    clear hN
    go_wp2_with fail
    go_loopw [6, 37] (fun o i wr => ∃ (k : Nat), k ≤ N ∧ i = .int .i64 (k : Int) ∧ Hid (Lo wr w.heap.size (.slice ao N cap) us ss ∧ Rd.Pw wr w.heap.size us ss) ∧ wr.ownsRow w.heap.size 42 7 o k (flat (us.take k)) ∧ Below w.heap.size w wr) (fun _ i _ => N - (intOf i).toNat)
    case atStart =>
      refine ⟨0, Nat.zero_le _, rfl, ?_, World.ownsRow_nil _ _ _ _, H1.out⟩
      have := HO1.out
      rw [HN.out] at this
      exact this
    case round =>
      obtain ⟨k, hk, rfl, HO, hM, hb⟩ := hrel
      have HBr : Hid _ := hb
      have hsz := hb.size
      clear hb
      obtain ⟨am, cm, rfl⟩ := own_slice8 hM
      by_cases h : k < N
      · skip
        obtain ⟨hx, hmem⟩ := HMm.out k h
        obtain ⟨s, hs⟩ : ∃ z, ss.getD k zr = z := ⟨_, rfl⟩
        rw [hs] at hx hmem
        obtain ⟨b1, b2, b3, b4, b5, b6⟩ := HSb.out s hmem
        have HX : Hid (ss[k]? = some s) := hx
        obtain ⟨g, cap', aa, ca, sa, cz, da, ct, hv, hu, hown, c0, c1, c2, c3', c4, c5, c6⟩ := Lo.get2 HO.out.1 HO.out.2 hx
        have hv2 : ao = some ⟨g, 0, none⟩ := by simp only [Value.slice.injEq] at hv; exact hv.1
        subst hv2
        have HU : Hid _ := hu
        clear hx hs hmem b1 b2 b3 b4 b6 hu hv
        obtain ⟨na, hna⟩ : ∃ m, s.args.length = m := ⟨_, rfl⟩
        obtain ⟨nz, hnz⟩ : ∃ m, s.dims.length = m := ⟨_, rfl⟩
        obtain ⟨nt, hnt⟩ : ∃ m, s.data.length = m := ⟨_, rfl⟩
        obtain ⟨S, hS⟩ : ∃ S, wr.heap.size = S := ⟨_, rfl⟩
        have HNt : Hid _ := hnt
        have HSS : Hid _ := hS
        have HUc : Hid (cls (sv s.name s.op (.slice aa s.args.length ca) (.slice sa s.dims.length cz) s.k s.n (.slice da s.data.length ct)) = [.string s.name, .string s.op, .slice aa na ca, .slice sa nz cz, .string s.k, .int .i64 (s.n : Int), .slice da nt ct]) := by rw [hna, hnz, hnt]; rfl
        simp only [hna, hnz, hnt] at HU hown c2 c3' c6 b5
        clear hna hnz hnt
        have e1 : (wr.alloc (.cells #[.string s.name, .string s.op, .slice aa na ca, .slice sa nz cz, .string s.k, .int .i64 (s.n : Int), .slice da nt ct] 41)).heap.size = S + 1 := by rw [← hS]; simp
        have hX1 : (wr.alloc (.cells #[.string s.name, .string s.op, .slice aa na ca, .slice sa nz cz, .string s.k, .int .i64 (s.n : Int), .slice da nt ct] 41)).heap[S]? = some (.cells #[.string s.name, .string s.op, .slice aa na ca, .slice sa nz cz, .string s.k, .int .i64 (s.n : Int), .slice da nt ct] 41 (0, 0)) := by
          have := heap_alloc_new wr (.cells #[.string s.name, .string s.op, .slice aa na ca, .slice sa nz cz, .string s.k, .int .i64 (s.n : Int), .slice da nt ct] 41)
          rw [hS] at this
          exact this
        have hX2 : ((wr.alloc (.cells #[.string s.name, .string s.op, .slice aa na ca, .slice sa nz cz, .string s.k, .int .i64 (s.n : Int), .slice da nt ct] 41)).alloc (.cells #[.string s.k] 9)).heap[S]? = some (.cells #[.string s.name, .string s.op, .slice aa na ca, .slice sa nz cz, .string s.k, .int .i64 (s.n : Int), .slice da nt ct] 41 (0, 0)) := by
          rw [(bl_alloc (Below.refl (wr.alloc (.cells #[.string s.name, .string s.op, .slice aa na ca, .slice sa nz cz, .string s.k, .int .i64 (s.n : Int), .slice da nt ct] 41)).heap.size _) (.cells #[.string s.k] 9)).block S (by omega)]
          exact hX1
        have hB2 : Below wr.heap.size wr ((wr.alloc (.cells #[.string s.name, .string s.op, .slice aa na ca, .slice sa nz cz, .string s.k, .int .i64 (s.n : Int), .slice da nt ct] 41)).alloc (.cells #[.string s.k] 9)) := bl_alloc (bl_alloc (Below.refl _ _) _) _
        have hown2 := Lx.own_below hown hB2
        have HX2 : Hid _ := hX2
        have HB2 : Hid _ := hB2
        have x0 : (wr.alloc (.cells #[.string s.name, .string s.op, .slice aa na ca, .slice sa nz cz, .string s.k, .int .i64 (s.n : Int), .slice da nt ct] 41)).cell? ⟨S, 6, none⟩ = some (.slice da nt ct) := by simp [World.cell?, hX1]
        have x1 : (wr.alloc (.cells #[.string s.name, .string s.op, .slice aa na ca, .slice sa nz cz, .string s.k, .int .i64 (s.n : Int), .slice da nt ct] 41)).cell? ⟨S, 4, none⟩ = some (.string s.k) := by simp [World.cell?, hX1]
        have hcn := cell_one_at (w := wr.alloc (.cells #[.string s.name, .string s.op, .slice aa na ca, .slice sa nz cz, .string s.k, .int .i64 (s.n : Int), .slice da nt ct] 41)) (x := .string s.k) (t := 9) (b := wr.heap.size + 1) (by simp)
        have HE1 : Hid _ := e1
        clear hX1 hX2 hB2 hown e1
        clear hS
        go_upto_region 10 with fail
        simp only [HSS.out]
        go_wp2_with (first | (at_builtin; refine wpList_append_kept _ rfl _ _ 26 rfl w.heap.size 9 i9 _ 1 16 Tryz.underlying26 hi9 hz90 hz91 hz92 rfl (by decide) _ nt (txts s.data) rfl hown2 ⟨wr.heap.size + 1, 0, none⟩ 1 1 [.string s.k] rfl rfl hcn ?_ ?_ ?_ ?_ (by decide) ?_))
        · intro u hu; simp only [List.mem_singleton] at hu; subst hu; rfl
        · unfold maxLen; omega
        · omega
        · simp; omega
        intro v3 w3 hown3 hkeep3 hg3
        have hsp := Lo.spared (w' := w3) (i := k) (ut := .slice da nt ct) (Lo.below HO.out.1 HB2.out) (Gr.Pw.below HO.out.2 HB2.out) HU.out HX.out (by rw [HNt.out]; exact hown2) (by rw [HNt.out]; exact hkeep3) hg3
        have hM3 := Lx.own_grown (Lx.own_below hM HB2.out) hown2 (by decide) hg3
        have hS3 := grown_other hown2 hg3 HX2.out (fun c e => by cases e)
        have hb3 : Below w.heap.size w w3 := (HBr.out.trans (HB2.out.mono hsz)).grown hg3 (by simp; omega) (fun k hk => (hown2.lt k hk).1)
        obtain ⟨a3, c3, rfl⟩ := own_slice1 hown3
        have HR3 : Hid (∀ j, j < nt + 1 → ∃ b off, a3 = some ⟨b, off, none⟩ ∧ w3.cell? ⟨b, off + j, none⟩ = some (.string ((s.data ++ [s.k]).getD j em))) := fun j hj => by
          obtain ⟨ax, cx, e, hR, _⟩ := Row.of_own hown3
          simp only [Value.slice.injEq] at e
          rw [e.1]
          have e2 : txts s.data ++ [.string s.k] = txts (s.data ++ [s.k]) := by simp [txts]
          rw [e2] at hR
          exact row_s hR (by rw [List.length_append, HNt.out]; exact hj)
        have HO3 : Hid (Lo w3 w.heap.size (.slice (some ⟨g, 0, none⟩) N cap) us ss ∧ Rd.Pw w3 w.heap.size us ss) := hsp
        have HM3 : Hid (w3.ownsRow w.heap.size 42 7 (.slice am k cm) k (flat (us.take k))) := hM3
        have HS3 : Hid _ := hS3
        have HB3 : Hid (Below w.heap.size w w3) := hb3
        have hsz3 := hb3.size
        clear hsp hM3 hS3 hb3 hown3 hkeep3 hg3 hown2 hcn x0 x1 c0 c1 c2 c3' c4 c5 c6 hM
        go_wp2_with fail
        go_loop [48] (fun i => ∃ j : Nat, j ≤ nt + 1 ∧ i = .int .i64 (j : Int)) (fun i => nt + 1 - (intOf i).toNat)
        case atStart => exact ⟨0, by omega, rfl⟩
        case round =>
          obtain ⟨j, hj, rfl⟩ := hrel
          by_cases hjn : j < nt + 1
          · obtain ⟨b', o', rfl, hx⟩ := HR3.out j hjn
            generalize (s.data ++ [s.k]).getD j em = x at hx
            by_cases h30 : 30 < x.size
            · go_wp2_with fail
              refine (HA.out _ HB3.out).mono ?_
              rintro e w9 ⟨rfl, h9⟩
              have H9 : Hid (Below w.heap.size w w9) := HB3.out.trans (h9.mono HB3.out.size)
              clear h9
              go_wp2
              go_ret
              exact ⟨rfl, H9.out⟩
            · go_wp2_with fail
              go_round
              case rel => exact ⟨j + 1, by omega, by go_num⟩
              case measure => simp [intOf]; omega
          · have hje : j = nt + 1 := by omega
            subst hje
            have s0 : w3.cell? ⟨S, 0, none⟩ = some (.string s.name) := by simp [World.cell?, HS3.out]
            have s1 : w3.cell? ⟨S, 1, none⟩ = some (.string s.op) := by simp [World.cell?, HS3.out]
            have s2 : w3.cell? ⟨S, 2, none⟩ = some (.slice aa na ca) := by simp [World.cell?, HS3.out]
            have s3 : w3.cell? ⟨S, 3, none⟩ = some (.slice sa nz cz) := by simp [World.cell?, HS3.out]
            have s4 : w3.cell? ⟨S, 4, none⟩ = some (.string s.k) := by simp [World.cell?, HS3.out]
            have s5 : w3.cell? ⟨S, 5, none⟩ = some (.int .i64 (s.n : Int)) := by simp [World.cell?, HS3.out]
            have s6 : w3.cell? ⟨S, 6, none⟩ = some (.slice da nt ct) := by simp [World.cell?, HS3.out]
            have hM3 := HM3.out.alloc (.cells #[.string s.name, .string s.op, .slice aa na ca, .slice sa nz cz, .string s.k, .int .i64 (s.n : Int), .slice da nt ct] 42)
            have hcn8 := cells_at (xs := [.string s.name, .string s.op, .slice aa na ca, .slice sa nz cz, .string s.k, .int .i64 (s.n : Int), .slice da nt ct]) (t := 42) (rfl : w3.heap.size = w3.heap.size)
            go_upto_region 16 with fail
            go_wp2_with (first | (at_builtin; refine wpList_append_own _ rfl _ _ 39 rfl w.heap.size 42 i42 _ 7 128 Tryz.underlying39 hi42 hz20 hz21 hz22 rfl (by decide) _ k (flat (us.take k)) rfl hM3 ⟨w3.heap.size, 0, none⟩ 1 1 [.string s.name, .string s.op, .slice aa na ca, .slice sa nz cz, .string s.k, .int .i64 (s.n : Int), .slice da nt ct] rfl rfl hcn8 (by intro u hu; simp only [List.mem_cons, List.not_mem_nil, or_false] at hu; rcases hu with rfl | rfl | rfl | rfl | rfl | rfl | rfl <;> rfl) (by unfold maxLen; omega) (by omega) (by simp; omega) ?_))
            intro v4 w4 hown4 hg4 _
            have hal := bl_alloc (Below.refl _ w3) (.cells #[.string s.name, .string s.op, .slice aa na ca, .slice sa nz cz, .string s.k, .int .i64 (s.n : Int), .slice da nt ct] 42)
            have hO4 := Lo.grown2 (Lo.below HO3.out.1 hal) (Gr.Pw.below HO3.out.2 hal) hM3 hg4
            have hM4 : w4.ownsRow w.heap.size 42 7 v4 (k + 1) (flat (us.take (k + 1))) := by
              rw [flat_take HU.out]
              exact hown4
            have hb4 : Below w.heap.size w w4 := (HB3.out.trans (hal.mono hsz3)).grown hg4 (by simp; omega) (fun k hk => (hM3.lt k hk).1)
            have HO4 : Hid (Lo w4 w.heap.size (.slice (some ⟨g, 0, none⟩) N cap) us ss ∧ Rd.Pw w4 w.heap.size us ss) := hO4
            have HM4 : Hid (w4.ownsRow w.heap.size 42 7 v4 (k + 1) (flat (us.take (k + 1)))) := hM4
            have HB4 : Hid (Below w.heap.size w w4) := hb4
            clear hO4 hM4 hb4 hown4 hg4 hM3 hcn8 hal s0 s1 s2 s3 s4 s5 s6
            go_wp2_with fail
            go_roundw
            case rel => exact ⟨k + 1, by omega, by go_num, HO4, HM4.out, HB4.out⟩
            case measure => simp [intOf]; omega
      · obtain rfl : k = N := by omega
        have HSl1 : Hid (Ssl wr ao ss) := ssl_of HO.out.1.own HO.out.1.all
        have HSl2 : Hid (Ssl wr am ss) := by
          have h := hM
          rw [List.take_of_length_le (by rw [HLn.out, HN.out]; exact Nat.le_refl _)] at h
          rw [← HN.out] at h
          exact ssl_of h HO.out.1.all
        have HB14 : Hid (Calls Tryz.prog 14 #[.slice ao k cap] wr fun e w' => Bo w' wr.heap.size (bld s0 0 ss) e ∧ Below wr.heap.size wr w') := by
          have := Build_any ss ao cap aF aZ wr (HE.out wr HBr.out) HSl1.out HPs.out HSb.out (by rw [HN.out]; omega)
          rw [HN.out] at this
          exact this
        have HB15 : Hid (∀ v, Below wr.heap.size wr v → Calls Tryz.prog 15 #[.slice am k cm] v fun e w' => Do w' (bld s0 0 ss) e ∧ Below v.heap.size v w') := fun v hv => by
          have := refBuild_any ss am cm v (HSl2.out.below hv) HPs.out HSb.out (by rw [HN.out]; omega)
          rw [HN.out] at this
          exact this
        have HOk : Hid (∀ l loss, bld s0 0 ss = .ok (l, loss) → grt l loss = true ∧ ∀ i, i < l.length → Nb (l.getD i zn)) := fun l loss h => ⟨bld_right HPs.out Ok.zero h, fun i hi => by
          have := bld_nb HSb.out (fun x hx => (by cases hx)) h
          rw [List.getD_eq_getElem?_getD, List.getElem?_eq_getElem hi]
          exact this _ (List.getElem_mem hi)⟩
        have HEr : Hid (∀ j c, bld s0 0 ss = .error (j, c) → c ≠ 0) := fun j c h => bld_err h
        have HWb : Hid (∀ v, Below wr.heap.size wr v → Below w.heap.size w v) := fun v hv => HBr.out.trans (hv.mono HBr.out.size)
        clear hM HSl1 HSl2 HO1 HO HPs HSb HLn
        obtain ⟨rs, hrs⟩ : ∃ r, bld s0 0 ss = r := ⟨_, rfl⟩
        rw [hrs] at HB14 HB15 HOk HEr
        clear hrs
        cases rs with
        | error ic =>
          obtain ⟨i, cc⟩ := ic
          have hc0 := HEr.out i cc rfl
          have hcc : ((cc : Int) != 0) = true := by simp; omega
          clear hc0
          go_wp2_with fail
          refine HB14.out.mono ?_
          rintro e w2 ⟨he, h2⟩
          obtain rfl : e = .returned (.tuple #[.agg #[.slice none 0 0, .int .i64 0], .int .i64 (i : Int), .int .i64 (cc : Int)]) := he
          have H2 : Hid (Below wr.heap.size wr w2) := h2
          have hg2 := heap_alloc_new w2 (.cells #[.slice none 0 0, .int .i64 0] 24)
          have HG2 : Hid _ := hg2
          have H3 : Hid (Below wr.heap.size wr (w2.alloc (.cells #[.slice none 0 0, .int .i64 0] 24))) := bl_alloc h2 _
          clear h2 hg2
          go_wp2_with fail
          refine (HB15.out _ H3.out).mono ?_
          rintro e w3 ⟨he, h3⟩
          obtain rfl : e = .returned (.tuple #[.agg #[.slice none 0 0, .int .i64 0], .int .i64 (i : Int), .int .i64 (cc : Int)]) := he
          have hg3 := kd_below h3 HG2.out
          have H4 : Hid (Below wr.heap.size wr w3) := H3.out.trans (h3.mono H3.out.size)
          have hg4 := kd_below (bl_alloc (Below.refl _ _) (.cells #[.slice none 0 0, .int .i64 0] 24)) hg3
          have e0 : (w3.alloc (.cells #[.slice none 0 0, .int .i64 0] 24)).cell? ⟨w2.heap.size, 0, none⟩ = some (.slice none 0 0) := by simp [World.cell?, hg4]
          have e1 : (w3.alloc (.cells #[.slice none 0 0, .int .i64 0] 24)).cell? ⟨w2.heap.size, 1, none⟩ = some (.int .i64 0) := by simp [World.cell?, hg4]
          have HEq := refEqual_same [] 0 none none 0 0 (w3.alloc (.cells #[.slice none 0 0, .int .i64 0] 24)) (fun i hi => absurd hi (by simp)) (fun i hi => absurd hi (by simp)) (fun i hi => absurd hi (by simp)) (fun i hi => absurd hi (by simp)) (Nat.zero_le _)
          simp only [List.length_nil] at HEq
          have H5 : Hid (Below wr.heap.size wr (w3.alloc (.cells #[.slice none 0 0, .int .i64 0] 24))) := bl_alloc H4.out _
          clear h3 hg3 hg4
          go_wp2_with fail
          refine HEq.mono ?_
          rintro e w5 ⟨rfl, h5⟩
          have H6 : Hid (Below w.heap.size w w5) := HWb.out _ (H5.out.trans (h5.mono H5.out.size))
          clear h5 HEq e0 e1
          go_wp2_with fail
          refine (HA.out _ H6.out).mono ?_
          rintro e w6 ⟨rfl, h6⟩
          have H7 : Hid (Below w.heap.size w w6) := H6.out.trans (h6.mono H6.out.size)
          clear h6
          go_wp2
          go_ret
          exact ⟨rfl, H7.out⟩
        | ok lo =>
          obtain ⟨l, loss⟩ := lo
          obtain ⟨hgr, hnb⟩ := HOk.out l loss rfl
          have HNb : Hid _ := hnb
          have HGr : Hid _ := hgr
          clear hnb hgr
          go_wp2_with fail
          refine HB14.out.mono ?_
          rintro e w2 ⟨he, h2⟩
          obtain ⟨v, vs, rfl, hgn⟩ := he
          obtain ⟨ag, cg, rfl, hg1, hg2⟩ := hgn.form
          have HNg : Hid (Nl w2 ag l) := hgn.nl
          have H2 : Hid (Below wr.heap.size wr w2) := h2
          have hg2' := heap_alloc_new w2 (.cells #[.slice ag l.length cg, .int .i64 loss] 24)
          have HG2 : Hid _ := hg2'
          have H3 : Hid (Below wr.heap.size wr (w2.alloc (.cells #[.slice ag l.length cg, .int .i64 loss] 24))) := bl_alloc h2 _
          have HCg : Hid (l.length ≤ cg ∧ cg ≤ maxLen) := ⟨hg1, hg2⟩
          clear h2 hg2' hgn hg1 hg2
          go_wp2_with fail
          refine (HB15.out _ H3.out).mono ?_
          rintro e w3 ⟨he, h3⟩
          obtain ⟨ah, ch, rfl, hnh, -, -⟩ := he
          have hg3 := kd_below h3 HG2.out
          have H4 : Hid (Below wr.heap.size wr w3) := H3.out.trans (h3.mono H3.out.size)
          have hal := bl_alloc (Below.refl _ w3) (.cells #[.slice ah l.length ch, .int .i64 loss] 24)
          have hg4 := kd_below hal hg3
          have HG4 : Hid ((w3.alloc (.cells #[.slice ah l.length ch, .int .i64 loss] 24)).heap[w2.heap.size]? = some (.cells #[.slice ag l.length cg, .int .i64 loss] 24 (0, 0))) := hg4
          have e0 : (w3.alloc (.cells #[.slice ah l.length ch, .int .i64 loss] 24)).cell? ⟨w2.heap.size, 0, none⟩ = some (.slice ag l.length cg) := by simp [World.cell?, hg4]
          have e1 : (w3.alloc (.cells #[.slice ah l.length ch, .int .i64 loss] 24)).cell? ⟨w2.heap.size, 1, none⟩ = some (.int .i64 loss) := by simp [World.cell?, hg4]
          have hng3 : Nl (w3.alloc (.cells #[.slice ah l.length ch, .int .i64 loss] 24)) ag l := ((HNg.out.below (bl_alloc (Below.refl _ _) _)).below h3).below hal
          have HEq := refEqual_same l loss ag ah cg ch (w3.alloc (.cells #[.slice ah l.length ch, .int .i64 loss] 24)) hng3 (hnh.below hal) (fun i hi => (HNb.out i hi).1) (fun i hi => (HNb.out i hi).2.1) (by have := (grt_iff.1 HGr.out).2.1; omega)
          have H5 : Hid (Below wr.heap.size wr (w3.alloc (.cells #[.slice ah l.length ch, .int .i64 loss] 24))) := bl_alloc H4.out _
          have HNg5 : Hid (∀ v, Below (w3.alloc (.cells #[.slice ah l.length ch, .int .i64 loss] 24)).heap.size (w3.alloc (.cells #[.slice ah l.length ch, .int .i64 loss] 24)) v → Nl v ag l) := fun v hv => hng3.below hv
          clear h3 hg3 hg4 hal hng3 hnh
          go_wp2_with fail
          refine HEq.mono ?_
          rintro e w5 ⟨rfl, h5⟩
          have H6 : Hid (Below w.heap.size w w5) := HWb.out _ (H5.out.trans (h5.mono H5.out.size))
          have hg5 := kd_below h5 HG4.out
          have f0 : w5.cell? ⟨w2.heap.size, 0, none⟩ = some (.slice ag l.length cg) := by simp [World.cell?, hg5]
          have f1 : w5.cell? ⟨w2.heap.size, 1, none⟩ = some (.int .i64 loss) := by simp [World.cell?, hg5]
          have HRt := Right_any l ag cg loss aF aZ w5 (HE.out _ H6.out) (HNg5.out _ h5) HCg.out.1 HCg.out.2 HNb.out
          rw [HGr.out] at HRt
          clear h5 HEq e0 e1 hg5
          go_wp2_with fail
          refine HRt.mono ?_
          rintro e w6 ⟨rfl, h6⟩
          have H7 : Hid (Below w.heap.size w w6) := H6.out.trans (h6.mono H6.out.size)
          clear h6 HRt f0 f1
          go_wp2_with fail
          refine (HA.out _ H7.out).mono ?_
          rintro e w7 ⟨rfl, h7⟩
          have H8 : Hid (Below w.heap.size w w7) := H7.out.trans (h7.mono H7.out.size)
          clear h7
          go_wp2
          go_ret
          exact ⟨rfl, H8.out⟩
end Go.Proofs.YtadgnafafdfioaaGreatDoor.Gr
