/-
  A TEXT's STATEMENTS: All; no row of one is another's (Pw). Conditions: each theorem's own.
-/
import Derived.Test.YtadgnafafdfioaaGreatDoorRt9
namespace Go.Proofs.YtadgnafafdfioaaGreatDoor.Rd
set_option maxRecDepth 100000
open Go.RowKit
set_option linter.unusedVariables false
set_option linter.unusedSimpArgs false

/-- a row that a statement's value holds -/
def Ub (v : Value) (g : Nat) : Prop := ∃ x, ((cls v)[2]? = some x ∨ (cls v)[6]? = some x) ∧ x.ownBlock = some g
theorem So.ub {w : World} {B g : Nat} {v : Value} {s : Sm} (h : So w B v s) (hg : Ub v g) : B ≤ g ∧ g < w.heap.size := by
  obtain ⟨ua, ud, ut, rfl, h1, h2, h3⟩ := h
  obtain ⟨x, hx, hb⟩ := hg
  rcases hx with hx | hx
  · have : x = ua := by simpa [cls, sv] using hx.symm
    subst this
    exact h1.lt g hb
  · have : x = ut := by simpa [cls, sv] using hx.symm
    subst this
    exact h3.1.lt g hb
/-- all rows lie behind B; no row of one is another's -/
def Pw (w : World) (B : Nat) (us : List Value) (ss : List Sm) : Prop := (∀ (i : Nat) u s, us[i]? = some u → ss[i]? = some s → So w B u s) ∧ ∀ (i j : Nat) u v s g, i < j → us[i]? = some u → us[j]? = some v → ss[j]? = some s → Ub u g → So w (g + 1) v s
theorem Pw.mono {w w' : World} {B : Nat} {us : List Value} {ss : List Sm} (h : Pw w B us ss) (hw : ∀ B u s, So w B u s → So w' B u s) : Pw w' B us ss := ⟨fun i u s h1 h2 => hw _ _ _ (h.1 i u s h1 h2), fun i j u v s g h1 h2 h3 h4 h5 => hw _ _ _ (h.2 i j u v s g h1 h2 h3 h4 h5)⟩
theorem Lw.len {w : World} : ∀ {us : List Value} {ss : List Sm}, Lw w us ss → us.length = ss.length
  | [], [], _ => rfl
  | u :: us, s :: ss, h => by simp [Lw.len h.2]
  | [], _ :: _, h => h.elim
  | _ :: _, [], h => h.elim
theorem Lw.get {w : World} : ∀ {us : List Value} {ss : List Sm}, Lw w us ss → ∀ {i : Nat} {u : Value}, us[i]? = some u → ∃ s, ss[i]? = some s ∧ So w 0 u s
  | [], [], _, i, u, h => by simp at h
  | v :: us, s :: ss, h, 0, u, hi => by simp at hi; subst hi; exact ⟨s, rfl, h.1⟩
  | v :: us, s :: ss, h, i + 1, u, hi => by
    obtain ⟨t, h1, h2⟩ := Lw.get h.2 (i := i) (u := u) (by simpa using hi)
    exact ⟨t, by simpa using h1, h2⟩
  | [], _ :: _, h, _, _, _ => h.elim
  | _ :: _, [], h, _, _, _ => h.elim
theorem Pw.snoc {w w' : World} {B : Nat} {us : List Value} {ss : List Sm} {u : Value} {s : Sm} (h : Pw w' B us ss) (hl : Lw w us ss) (hu : So w' w.heap.size u s) (hB : B ≤ w.heap.size) : Pw w' B (us ++ [u]) (ss ++ [s]) := by
  have e := hl.len
  refine ⟨fun i u1 s1 h1 h2 => ?_, fun i j u1 v1 s1 g hij h1 h2 h3 hg => ?_⟩
  · by_cases hi : i < us.length
    · rw [List.getElem?_append_left hi] at h1
      rw [List.getElem?_append_left (by omega)] at h2
      exact h.1 i u1 s1 h1 h2
    · have hil : i < us.length + 1 := by have := (List.getElem?_eq_some_iff.1 h1).1; simpa using this
      have : i = us.length := by omega
      subst this
      rw [List.getElem?_append_right (by omega)] at h1 h2
      simp at h1
      rw [e, Nat.sub_self] at h2
      simp at h2
      subst h1 h2
      exact hu.mono hB
  · by_cases hj : j < us.length
    · rw [List.getElem?_append_left (by omega)] at h1
      rw [List.getElem?_append_left hj] at h2
      rw [List.getElem?_append_left (by omega)] at h3
      exact h.2 i j u1 v1 s1 g hij h1 h2 h3 hg
    · have hjl : j < us.length + 1 := by have := (List.getElem?_eq_some_iff.1 h2).1; simpa using this
      have : j = us.length := by omega
      subst this
      rw [List.getElem?_append_left (by omega)] at h1
      rw [List.getElem?_append_right (by omega)] at h2 h3
      simp at h2
      rw [e, Nat.sub_self] at h3
      simp at h3
      subst h2 h3
      obtain ⟨t, _, ht⟩ := hl.get h1
      exact hu.mono (So.ub ht hg).2
/-- what All tells of lines -/
def Ap (w' : World) (B : Nat) (L : List (Nat × List (List UInt8))) (e : Ending) : Prop :=
  match alls L with
  | some ss => ∃ v us, e = .returned (.tuple #[v, .int .i64 0, .int .i64 0]) ∧ Lo w' B v us ss ∧ Pw w' B us ss
  | none => e = .returned (.tuple #[.slice none 0 0, .int .i64 (bad L : Nat), .int .i64 2])
theorem Ap.yes {w' : World} {B : Nat} {L : List (Nat × List (List UInt8))} {e : Ending} {ss : List Sm} (h : alls L = some ss) (h' : ∃ v us, e = .returned (.tuple #[v, .int .i64 0, .int .i64 0]) ∧ Lo w' B v us ss ∧ Pw w' B us ss) : Ap w' B L e := by
  unfold Ap; rw [h]; exact h'
theorem Ap.no {w' : World} {B : Nat} {L : List (Nat × List (List UInt8))} {n : Nat} (h : alls L = none) (hb : bad L = n) : Ap w' B L (.returned (.tuple #[.slice none 0 0, .int .i64 (n : Int), .int .i64 2])) := by
  unfold Ap; rw [h, hb]
set_option maxHeartbeats 4000000 in
theorem All2_any (s : ByteArray) (aF aZ : Addr) (w : World) (hE : Er w aF aZ) (hs : s.size ≤ 100000) : Calls Tryz.prog 13 #[.string s] w fun e w' => Ap w' w.heap.size (Lx.lns s.data.toList) e ∧ Below w.heap.size w w' := by
  have hLA := fun w => Lx.lines_any s w hs
  have hll := lns_len s
  have hlw := lns_words s
  have hls := lns_size s
  generalize Lx.lns s.data.toList = L at hLA hll hlw hls ⊢
  have HW : Hid _ := hlw
  have HS : Hid _ := hls
  have HE : Hid _ := hE
  clear hlw hls hE
  obtain ⟨i0, hi, hz0, hz1, hz2⟩ := info_parts inf26
  go_enter Tryz.func13, Tryz.ntmps13
  go_wp2_with fail
  refine (hLA _).mono ?_
  rintro e w1 ⟨v, us, rfl, hL, hB1⟩
  clear hLA
  obtain ⟨ao, cap, rfl, _, _⟩ := hL.form
  have HL0 : Hid _ := hL
  clear hL
  obtain ⟨N, hN⟩ : ∃ N, L.length = N := ⟨_, rfl⟩
  have HN : Hid (L.length = N) := hN
  rw [hN] at hll HL0 ⊢
  clear hN
  go_wp2_with fail
  go_loopw [5, 13] (fun o i wr => ∃ (k : Nat) (us' : List Value) (ss : List Sm), k ≤ N ∧ i = .int .i64 (k : Int) ∧ alls (L.take k) = some ss ∧ ss.length = k ∧ Lo wr w.heap.size o us' ss ∧ Pw wr w.heap.size us' ss ∧ Hid (Lx.Ls wr w.heap.size 65 (.slice ao N cap) us L) ∧ Below w.heap.size w wr) (fun _ i _ => N - (intOf i).toNat)
  case atStart => exact ⟨0, [], [], Nat.zero_le _, rfl, rfl, rfl, Lo.nil _ _, ⟨fun i u s h => (by simp at h), fun i j u v s g _ h => (by simp at h)⟩, HL0, hB1⟩
  case round =>
    obtain ⟨k, us', ss, hk, rfl, hal, hsl, hO, hPw0, HL, hBw⟩ := hrel
    have HPw : Hid (Pw wr w.heap.size us' ss) := hPw0
    clear hPw0
    have HA : Hid _ := hal
    clear hal
    by_cases hkn : k < N
    · obtain ⟨⟨n, ws⟩, hx⟩ := getE L k (by rw [HN.out]; exact hkn)
      have hmem := List.mem_of_getElem? hx
      have hwl := HW.out _ hmem
      have hws := HS.out _ hmem
      simp only at hwl hws
      have HL' := HL.out
      have hget := Lx.Ls.get (w := wr) (base := w.heap.size) (e := 65) (v := .slice ao L.length cap) (us := us) (ls := L) (by rw [HN.out]; exact HL') hx
      rw [HN.out] at hget
      obtain ⟨g, cap', u, hv, hc1, hc2, how, hg⟩ := hget
      obtain ⟨rfl, rfl⟩ : ao = some ⟨g, 0, none⟩ ∧ cap = cap' := by simpa using hv
      clear hv HL' hmem
      have HX : Hid (L[k]? = some (n, ws)) := hx
      clear hx
      obtain ⟨a2, c2, rfl, hR, hcap, hcm⟩ := ow_full how
      clear how
      have HRow : Hid _ := hR
      have HWS : Hid _ := hws
      clear hR hws
      have hbig : (bas ws).length ≤ 1000000 := by omega
      obtain ⟨M, hM⟩ : ∃ M, (bas ws).length = M := ⟨_, rfl⟩
      have HP : Hid (∀ v, Below wr.heap.size wr v → Calls Tryz.prog 30 #[.agg #[.int .i64 (n : Int), .slice a2 M c2]] v fun e w' => Po w' v.heap.size (par (bas ws)) e ∧ Below v.heap.size v w') := by
        intro v hv
        rw [← hM]
        exact Parse_any n (bas ws) a2 c2 aF aZ v ((HE.out.below hBw).below hv) (Row.below HRow.out hv) hbig hcap hcm (fun y hy => by have := HWS.out y hy; omega)
      rw [hM] at hc2 hcap hwl hbig
      clear hM
      have hpn : par (bas ws) = none → alls L = none ∧ bad L = n := fun hp => alls_stop HA.out HX.out hp
      have hpy : ∀ s', par (bas ws) = some s' → alls (L.take (k + 1)) = some (ss ++ [s']) := fun s' hp => alls_next HA.out HX.out hp
      have HPN : Hid _ := hpn
      have HPY : Hid _ := hpy
      clear hpn hpy HRow HWS
      have hB0 := ((Below.refl wr.heap.size wr).alloc (Nat.le_refl _) (.cells #[.int .i64 (n : Int), .slice a2 M c2] 65))
      have HB0 : Hid _ := hB0
      clear hB0
      cases hp : par (bas ws) with
      | none =>
        obtain ⟨e1, e2⟩ := HPN.out hp
        have HP' := HP.out
        rw [hp] at HP'
        have HQ : Hid _ := HP'
        clear HP HP' HPN HPY hp
        go_wp2_with fail
        refine (HQ.out _ HB0.out).mono ?_
        rintro e w2 ⟨rfl, hB2⟩
        have hd0 : w2.cell? ⟨wr.heap.size, 0, none⟩ = some (.int .i64 (n : Int)) := (own1 hB2).1 0
        have hlt2 : wr.heap.size < w2.heap.size := by have := hB2.size; simp at this; omega
        have HB2 : Hid (Below w.heap.size w w2) := hBw.trans ((HB0.out.trans (hB2.mono (by simp))).mono hBw.size)
        clear hB2 hc1 hc2 hO hBw
        go_wp2_with fail
        go_region
        go_wp2
        go_ret3
        exact ⟨Ap.no e1 e2, ((HB2.out.alloc (by have := HB2.out.size; omega) _).drew)⟩
      | some s' =>
        have hal := HPY.out s' hp
        have HP' := HP.out
        rw [hp] at HP'
        have HQ : Hid _ := HP'
        have HA' : Hid _ := hal
        clear HP HP' HPN HPY hp hal
        go_wp2_with fail
        refine (HQ.out _ HB0.out).mono ?_
        rintro e w2 ⟨⟨u, rfl, hU⟩, hB2⟩
        obtain ⟨b1, m1, d1, b2, m2, d2, b3, m3, d3, rfl⟩ := hU.form
        have hlt2 : wr.heap.size < w2.heap.size := by have := hB2.size; simp at this; omega
        have hBr : Below wr.heap.size wr w2 := HB0.out.trans (hB2.mono (by simp))
        have HU : Hid _ := So.mono hU (Nat.zero_le _)
        have hUr : So w2 wr.heap.size _ s' := So.mono hU (by simp)
        have HP2 : Hid (Pw w2 w.heap.size (us' ++ [sv s'.name s'.op (.slice b1 m1 d1) (.slice b2 m2 d2) s'.k s'.n (.slice b3 m3 d3)]) (ss ++ [s'])) := (HPw.out.mono fun B u s h => h.below hBr).snoc hO.all hUr hBw.size
        clear hUr
        have hO2 := hO.below hBr
        have HL2 : Hid _ := HL.out.below hBr
        have hBw2 := hBw.trans (hBr.mono hBw.size)
        clear hU hO hBr hB2 hBw hc1 hc2 HL
        have hown := hO2.own
        rw [hsl] at hown
        have hsz := hBw2.size
        go_wp2_with (first | (at_builtin; refine wpList_append_own _ rfl _ _ 35 rfl w.heap.size 41 i0 _ 7 128 Tryz.underlying35 hi hz0 hz1 hz2 rfl (by decide) _ k (flat us') rfl ((hown.alloc _).alloc _) ⟨w2.heap.size + 1, 0, none⟩ 1 1 [.string s'.name, .string s'.op, .slice b1 m1 d1, .slice b2 m2 d2, .string s'.k, .int .i64 (s'.n : Int), .slice b3 m3 d3] rfl rfl ?_ ?_ ?_ ?_ ?_ ?_))
        · exact (Row.seven (by go_simp) (by go_simp) (by go_simp) (by go_simp) (by go_simp) (by go_simp) (by go_simp)).news
        · intro x hx
          simp only [List.mem_cons, List.not_mem_nil, or_false] at hx
          rcases hx with rfl | rfl | rfl | rfl | rfl | rfl | rfl <;> rfl
        · unfold maxLen; omega
        · omega
        · simp; omega
        · intro v' w3 hown3 hgrow _
          have hX : ∀ o1 o2, Below w2.heap.size w2 ((w2.alloc o1).alloc o2) := fun o1 o2 => ((Below.refl _ w2).alloc (Nat.le_refl _) o1).alloc (by simp) o2
          have hown4 : w3.ownsRow w.heap.size 41 7 v' (ss.length + 1) (flat us' ++ cls (sv s'.name s'.op (.slice b1 m1 d1) (.slice b2 m2 d2) s'.k s'.n (.slice b3 m3 d3))) := by rw [hsl]; exact hown3
          have hO3 := (hO2.below (hX _ _)).snoc (So.below HU.out (hX _ _)) hown4 hgrow
          have HL3 : Hid (Lx.Ls w3 w.heap.size 65 _ us L) := Lx_kept (Lx.Ls.below HL2.out (hX _ _)) ((hown.alloc _).alloc _) hgrow
          have hB3 : Below w.heap.size w w3 := ((hBw2.alloc hsz _).alloc (by simp; omega) _).grown hgrow (by simp; omega) (fun x hx => (hown.lt x hx).1)
          have HP3 : Hid (Pw w3 w.heap.size (us' ++ [sv s'.name s'.op (.slice b1 m1 d1) (.slice b2 m2 d2) s'.k s'.n (.slice b3 m3 d3)]) (ss ++ [s'])) := HP2.out.mono fun B u s h => So.grown (So.below h (hX _ _)) ((hown.alloc _).alloc _) hgrow
          clear hown3 hown4 hgrow hX hO2 hown HL2 hBw2
          go_wp2
          go_roundw
          case rel => exact ⟨k + 1, _, _, by omega, by go_num, HA'.out, by rw [List.length_append, hsl]; rfl, hO3, HP3.out, HL3, hB3⟩
          case measure => simp [intOf]; omega
    · obtain rfl : k = N := by omega
      have e1 : alls L = some ss := by have := HA.out; rw [take_all HN.out] at this; exact this
      have HE1 : Hid _ := e1
      have HO : Hid _ := hO
      obtain ⟨a2, c2, rfl⟩ := hO.form
      clear e1 hO
      go_wp2
      go_ret3
      exact ⟨Ap.yes HE1.out ⟨_, _, rfl, HO.out, HPw.out⟩, hBw⟩
end Go.Proofs.YtadgnafafdfioaaGreatDoor.Rd
