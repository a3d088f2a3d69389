/-
  THE WALK OF ShapePlaces: the places of any shape, one behind the other, have the counts from 0 on; the call gives true. Conditions: the theorem's own (what the arguments hold).
-/
import Derived.Test.YtjelhhchlffjbaaBack
namespace Go.Proofs.Ytjelhhchlffjbaa
set_option maxRecDepth 100000
open Go.RowKit
set_option linter.unusedVariables false

theorem nxt_plc {s : List Nat} (h : pos s) {i : Nat} (hi : i < shz s) : (nxt s (plc s i)).2 = decide (i + 1 < shz s) ∧ (i + 1 < shz s → (nxt s (plc s i)).1 = plc s (i + 1)) := by
  have k := nxt_more (plc_inn h hi)
  rw [cnt_plc h hi] at k
  by_cases c : (nxt s (plc s i)).2 = true
  · rw [if_pos c] at k
    have l := cnt_lt k.1
    rw [k.2] at l
    refine ⟨by rw [c]; simp [l], fun _ => ?_⟩
    rw [← plc_cnt k.1, k.2]
  · rw [if_neg c] at k
    have c' : (nxt s (plc s i)).2 = false := by simpa using c
    refine ⟨by rw [c']; simp; omega, fun h => by omega⟩

/-- what is known of a shape and a count below its size -/
theorem at_count {ss : List Int} (hr : Rgt ss) {i : Nat} (hi : i < szI ss) :
    plcI ss i = ints (plc (nats ss) i) ∧ (plcI ss i).length = ss.length ∧ Inn ss (plcI ss i) ∧ offs ss (plcI ss i) = i ∧ inn (nats ss) (plc (nats ss) i) = true ∧
    (nxt (nats ss) (plc (nats ss) i)).2 = decide (i + 1 < szI ss) ∧ (i + 1 < szI ss → ints (nxt (nats ss) (plc (nats ss) i)).1 = plcI ss ((i + 1 : Nat) : Int)) := by
  have e : plcI ss i = ints (plc (nats ss) i) := if_pos ⟨by omega, by omega⟩
  obtain ⟨_, h2, h3⟩ := plcI_of hi
  have hi' := hi
  rw [szI_of hr] at hi'
  obtain ⟨h4, h5⟩ := nxt_plc (pos_nats hr.out.2.1) hi'
  refine ⟨e, by rw [e, ints_len, plc_len, nats_len], h2, h3, plc_inn (pos_nats hr.out.2.1) hi', by rw [h4, szI_of hr], fun h => ?_⟩
  have e2 : plcI ss ((i + 1 : Nat) : Int) = ints (plc (nats ss) (i + 1)) := if_pos ⟨by omega, by omega⟩
  rw [szI_of hr] at h
  rw [h5 h, e2]

/-- the place of a count is the other one just if that is a place, of that count -/
theorem hit_iff {ss ts : List Int} (hr : Rgt ss) {i : Nat} (hi : i < szI ss) : plcI ss i = ts ↔ (Inn ss ts ∧ offs ss ts = i) := by
  constructor
  · intro h
    obtain ⟨_, h2, h3⟩ := plcI_of hi
    rw [h] at h2 h3
    exact ⟨h2, h3⟩
  · rintro ⟨h1, rfl⟩
    exact (offs_of ⟨hr, h1⟩).2

/-- what the walk knows of its arguments and of the first answers -/
structure Cx (w : World) (a1 a2 : Option Addr) (ss ts p : List Int) (n : Int) (L M K q : Nat) (d1 d2 : Bool) : Prop where
  r : Rgt ss
  s : Sl w a1 ss
  t : Sl w a2 ts
  L : ss.length = L
  M : ts.length = M
  K : offs ss ts = K
  q : szI ss = q
  d1 : decide (Inn ss ts) = d1
  d2 : decide (0 ≤ n ∧ n < szI ss) = d2
  p : plcI ss n = p
theorem Cx.hit {w : World} {a1 a2 : Option Addr} {ss ts p : List Int} {n : Int} {L M K q : Nat} {d1 d2 : Bool} (h : Cx w a1 a2 ss ts p n L M K q d1 d2) {i : Nat} (hi : i < q) (e : plcI ss i = ts) : d1 = true ∧ K = i := by
  have := (hit_iff h.r (by rw [h.q]; exact hi)).1 e
  exact ⟨by rw [← h.d1]; simp [this.1], by rw [← h.K]; exact this.2⟩
theorem Cx.miss {w : World} {a1 a2 : Option Addr} {ss ts p : List Int} {n : Int} {L M K q : Nat} {d1 d2 : Bool} (h : Cx w a1 a2 ss ts p n L M K q d1 d2) {i : Nat} (hi : i < q) (e : ¬ plcI ss i = ts) : (d1 && decide (K < i + 1)) = (d1 && decide (K < i)) := by
  cases hd : d1 with
  | false => simp
  | true =>
    have h1 : Inn ss ts := by have := h.d1; rw [hd] at this; exact of_decide_eq_true this
    have : K ≠ i := fun c => e ((hit_iff h.r (by rw [h.q]; exact hi)).2 ⟨h1, by rw [h.K]; exact c⟩)
    have : decide (K < i + 1) = decide (K < i) := by by_cases c : K < i <;> simp [c] <;> omega
    rw [this]
theorem Cx.same {w : World} {a1 a2 : Option Addr} {ss ts p : List Int} {n : Int} {L M K q : Nat} {d1 d2 : Bool} (h : Cx w a1 a2 ss ts p n L M K q d1 d2) {i : Nat} (hi : i < q) (e : n = (i : Int)) : d2 = true ∧ p = plcI ss i := by
  have := h.q
  refine ⟨?_, by rw [← h.p, e]⟩
  rw [← h.d2]; simp; omega
theorem Cx.fin {w : World} {a1 a2 : Option Addr} {ss ts p : List Int} {n : Int} {L M K q : Nat} {d1 d2 : Bool} (h : Cx w a1 a2 ss ts p n L M K q d1 d2) : (d1 = true → K < q) ∧ (d1 = false → K = 0) := by
  constructor
  · intro c
    have h1 : Inn ss ts := by have := h.d1; rw [c] at this; exact of_decide_eq_true this
    rw [← h.K, ← h.q]; exact (offs_of ⟨h.r, h1⟩).1
  · intro c
    have h1 : ¬ Inn ss ts := by have := h.d1; rw [c] at this; exact of_decide_eq_false this
    rw [← h.K]; exact if_neg fun x => h1 x.2

set_option maxHeartbeats 1000000 in
theorem shapePlaces_any (a1 a2 : Option Addr) (ss ts : List Int) (c1 c2 : Nat) (n : Int) (w : World) (hS : Sl w a1 ss) (hT : Sl w a2 ts) (hN : a1 = none → c1 = 0) (hN2 : a2 = none → c2 = 0) (hw : (Lit.int .i64 n).wf = true) :
    Calls Try.prog 4 #[.slice a1 ss.length c1, .slice a2 ts.length c2, .int .i64 n] w fun e w' => e = .returned (.bool true) ∧ Below w.heap.size w w' := by
  clear hN hN2 hw
  by_cases hg : 100 < ss.length ∨ 100 < ts.length
  · have HG : Hid (100 < ss.length ∨ 100 < ts.length) := hg
    clear hS hT hg
    generalize ss.length = n1 at *
    generalize ts.length = n2 at *
    go_enter Try.func4, Try.ntmps4
    by_cases h : 100 < n1
    · go_wp2_with fail
      refine (awake_any _).mono ?_
      rintro e w1 ⟨rfl, hB⟩
      go_wp2
      go_ret
      exact ⟨rfl, hB⟩
    · have h' : 100 < n2 := by have := HG.out; omega
      go_wp2_with fail
      refine (awake_any _).mono ?_
      rintro e w1 ⟨rfl, hB⟩
      go_wp2
      go_ret
      exact ⟨rfl, hB⟩
  have hl1 : ss.length ≤ 100 := by omega
  have hl2 : ts.length ≤ 100 := by omega
  clear hg
  have k1 := offset_any a1 a2 ss ts c1 c2 w (by omega) (by omega) hS hT
  have k2 := place_any a1 ss c1 n w (by omega) hS
  have k3 := fun w1 (h : Below w.heap.size w w1) => refRight_any a1 ss c1 w1 (by omega) (hS.below h)
  by_cases hr : Rgt ss
  · have f4 : decide (Rgt ss ∧ Inn ss ts) = decide (Inn ss ts) := by simp [hr]
    rw [f4] at k1
    rw [decide_eq_true hr] at k3
    have h64 := szI_le ss
    have hq1 := (szI_pos ss).2 hr
    have hL4 := hr.out.1
    obtain ⟨L, hL⟩ : ∃ x, ss.length = x := ⟨_, rfl⟩
    obtain ⟨M, hM⟩ : ∃ x, ts.length = x := ⟨_, rfl⟩
    obtain ⟨K, hK⟩ : ∃ x, offs ss ts = x := ⟨_, rfl⟩
    obtain ⟨q, hq⟩ : ∃ x, szI ss = x := ⟨_, rfl⟩
    obtain ⟨d1, hd1⟩ : ∃ x, decide (Inn ss ts) = x := ⟨_, rfl⟩
    obtain ⟨d2, hd2⟩ : ∃ x, decide (0 ≤ n ∧ n < szI ss) = x := ⟨_, rfl⟩
    obtain ⟨p, hp⟩ : ∃ x, plcI ss n = x := ⟨_, rfl⟩
    have hX : Cx w a1 a2 ss ts p n L M K q d1 d2 := ⟨hr, hS, hT, hL, hM, hK, hq, hd1, hd2, hp⟩
    have hpl := plcI_len ss n
    obtain ⟨P, hP⟩ : ∃ x, p.length = x := ⟨_, rfl⟩
    rw [hp, hL, hP] at hpl
    rw [hd2, hp, hL, hP] at k2
    rw [hK, hd1, hL, hM] at k1
    simp only [hL] at k3
    rw [hL] at hl1 hL4
    rw [hM] at hl2
    rw [hq] at h64 hq1
    rw [hL, hM]
    have HP : Hid (p.length = P) := hP
    have HX : Hid (Cx w a1 a2 ss ts p n L M K q d1 d2) := hX
    clear f4 hS hT hr hL hM hK hq hd1 hd2 hp hP hX
    obtain ⟨i0, hi, hz0, hz1, hz2⟩ := info_parts Try.info3
    go_enter Try.func4, Try.ntmps4
    go_wp2_with fail
    refine k1.mono ?_
    rintro e w1 ⟨rfl, rfl⟩
    clear k1
    go_wp2_with fail
    refine k2.mono ?_
    rintro e w2 ⟨ap, capp, rfl, hSp, hBp⟩
    have k3 := k3 w2 hBp
    have H2 : Hid (Below w1.heap.size w1 w2 ∧ Sl w2 ap p) := ⟨hBp, hSp⟩
    clear k2 hSp hBp
    go_wp2_with fail
    refine k3.mono ?_
    rintro e w3 ⟨rfl, rfl⟩
    clear k3
    go_wp2_with (first | (at_make; refine wpList_make_full _ rfl _ _ 22 rfl w3.heap.size 3 i0 (.int .i64 0) 1 Try.underlying22 hi hz0 hz1 _ _ _ _ L rfl rfl (by omega) (by omega) (by rw [hz2]; omega) (by unfold maxLen; omega) (Nat.le_refl _) ?_))
    intro w4 hown hgrow
    have hO := Ow.of_own hown
    have hB4 : Below w3.heap.size w3 w4 := (Below.refl _ _).grown hgrow (Nat.le_refl _) (fun k h => by cases h)
    have H4 : Hid (Below w3.heap.size w3 w4 ∧ Sl w4 (some ⟨w3.heap.size, 0, none⟩) (plcI ss ((0 : Nat) : Int))) := ⟨hB4, by
      have hX := HX.out
      obtain ⟨e, _⟩ := at_count hX.r (i := 0) (by rw [hX.q]; omega)
      rw [e]
      refine hO.sl (by rw [plc_len, nats_len, hX.L]) (fun i hi => ?_)
      rw [plc_zero]
      simp only [List.getD, List.getElem?_replicate]; split <;> rfl⟩
    clear hown hgrow hO hB4
    go_wp2_with fail
    go_loopw [11, 12, 13, 14, 15, 16] (fun vp vm vf vi _ _ wr => ∃ (i : Nat) (ao : Option Addr) (cap : Nat), i ≤ q ∧ vi = .int .i64 i ∧ vp = .slice ao L cap ∧ vm = .bool (decide (i < q)) ∧ vf = .bool (d1 && decide (K < i)) ∧ (i < q → Sl wr ao (plcI ss (i : Nat))) ∧ (ao = none → cap = 0) ∧ Below w3.heap.size w3 wr) (fun _ _ _ vi _ _ _ => q - (intOf vi).toNat)
    case atStart =>
      refine ⟨0, some ⟨w3.heap.size, 0, none⟩, L, by omega, rfl, rfl, by simp [hq1], by simp, fun _ => H4.out.2, (fun h => by cases h), H4.out.1⟩
    case round =>
      obtain ⟨i, ao, cap, hiq, rfl, rfl, rfl, rfl, hSl, hno, hB⟩ := hrel
      clear H4
      by_cases hi' : i < q
      · have hX := HX.out
        obtain ⟨qA, qB, qC, qD, qE, qF, qG⟩ := at_count hX.r (i := i) (by rw [hX.q]; exact hi')
        have hBw : Below w1.heap.size w1 wr := H2.out.1.trans (hB.mono H2.out.1.size)
        have hS1 := hSl hi'
        rw [hX.q] at qF qG
        rw [hX.L] at qB
        have k5 := refSame_any ao a2 (plcI ss i) ts cap c2 wr (by rw [qB]; omega) (by rw [hX.M]; omega) hS1 (hX.t.below hBw)
        rw [qB, hX.M] at k5
        have k7 : ∀ w6, Sm wr w6 → Calls Try.prog 17 #[.slice a1 L c1, .slice ao L cap] w6 fun e w' => e = .returned (.tuple #[.int .i64 (i : Nat), .bool true]) ∧ w' = w6 := by
          intro w6 h
          have := offset_any a1 ao ss (plcI ss i) c1 cap w6 (by rw [hX.L]; omega) (by rw [qB]; omega) ((hX.s.below hBw).below (h.below _)) (hS1.below (h.below _))
          rw [qB, hX.L, qD, decide_eq_true ⟨hX.r, qC⟩] at this
          exact this
        have k8 : ∀ w6, Sm wr w6 → Calls Try.prog 19 #[.slice a1 L c1, .slice ao L cap] w6 fun e w' => ∃ ao' cap', e = .returned (.tuple #[.slice ao' L cap', .bool (decide (i + 1 < q))]) ∧ Sl w' ao' (ints (nxt (nats ss) (plc (nats ss) i)).1) ∧ (ao' = none → cap' = 0) ∧ Below w6.heap.size w6 w' := by
          intro w6 h
          have := next_any a1 ao ss (plc (nats ss) i) c1 cap w6 hX.r qE ((hX.s.below hBw).below (h.below _)) (by rw [← qA]; exact hS1.below (h.below _)) hno
          rw [hX.L, qF] at this
          exact this
        have HQ : Hid (i + 1 < q → ints (nxt (nats ss) (plc (nats ss) i)).1 = plcI ss ((i + 1 : Nat) : Int)) := qG
        have HL : Hid ((plcI ss i).length = L) := qB
        have HR : Hid (Below w3.heap.size w3 wr ∧ Sl wr ao (plcI ss i) ∧ Sl wr ap p) := ⟨hB, hS1, H2.out.2.below hB⟩
        clear qA qB qC qD qE qF qG hBw hS1 hB hSl hno
        rw [decide_eq_true hi']
        obtain ⟨f, hf⟩ : ∃ f, (d1 && decide (K < i)) = f := ⟨_, rfl⟩
        rw [hf]
        have HF : Hid ((d1 && decide (K < i)) = f) := hf
        clear hf
        by_cases hc : plcI ss i = ts
        · by_cases hn : n = (i : Int)
          · obtain ⟨hd, hk⟩ := hX.hit hi' hc
            subst hd
            subst hk
            have k5 := k5
            obtain ⟨hd2, hp⟩ := hX.same hi' hn
            subst hd2
            have hin : ((K : Int) == n) = true := by simp [hn]
            rw [decide_eq_true hc] at k5
            have HC0 : (true && decide (K < K + 1)) = true := by simp
            have HC : Hid ((true && decide (K < K + 1)) = true) := HC0
            clear HC0
            have HPP : Hid (p = plcI ss K) := hp
            clear hX hc hn hp
            clear HF
            go_wp2_with fail
            refine k5.mono ?_
            rintro e w5 ⟨rfl, hm⟩
            have H5 : Hid (Sm wr w5) := hm
            clear hm k5
            have k6 := refSame_any ap ao p (plcI ss K) capp cap w5 (by rw [HP.out]; omega) (by rw [HL.out]; omega) (HR.out.2.2.below (H5.out.below _)) (HR.out.2.1.below (H5.out.below _))
            rw [HP.out, HL.out, decide_eq_true HPP.out] at k6
            go_wp2_with fail
            refine k6.mono ?_
            rintro e w6 ⟨rfl, hm⟩
            have H6 : Hid (Sm wr w6) := H5.out.trans hm
            clear hm k6 H5
            have k7 := k7 w6 H6.out
            have k8 := k8 w6 H6.out
            go_wp2_with fail
            refine k7.mono ?_
            rintro e w7 ⟨rfl, rfl⟩
            clear k7
            go_wp2_with fail
            refine k8.mono ?_
            rintro e w8 ⟨ao8, cap8, rfl, hS8, hn8, hB8⟩
            have H8 : Hid (Sl w8 ao8 (ints (nxt (nats ss) (plc (nats ss) K)).1) ∧ (ao8 = none → cap8 = 0) ∧ Below w3.heap.size w3 w8) := ⟨hS8, hn8, (HR.out.1.trans (H6.out.below _)).trans (hB8.mono (by rw [H6.out.heap]; exact HR.out.1.size))⟩
            clear hS8 hn8 hB8 k8
            go_wp2
            go_roundw
            case rel =>
              refine ⟨K + 1, ao8, cap8, by omega, by go_num, rfl, rfl, ?_, ?_, H8.out.2.1, H8.out.2.2⟩
              · rw [HC.out]
              · intro h; rw [← HQ.out h]; exact H8.out.1
            case measure => simp [intOf]; omega
          · obtain ⟨hd, hk⟩ := hX.hit hi' hc
            subst hd
            subst hk
            have k5 := k5
            have hin : ((K : Int) == n) = false := by simp; omega
            rw [decide_eq_true hc] at k5
            have HC0 : (true && decide (K < K + 1)) = true := by simp
            have HC : Hid ((true && decide (K < K + 1)) = true) := HC0
            clear HC0
            clear hX hc hn
            clear HF
            go_wp2_with fail
            refine k5.mono ?_
            rintro e w5 ⟨rfl, hm⟩
            have H5 : Hid (Sm wr w5) := hm
            clear hm k5
            have H6 : Hid (Sm wr w5) := H5.out
            clear H5
            have k7 := k7 w5 H6.out
            have k8 := k8 w5 H6.out
            go_wp2_with fail
            refine k7.mono ?_
            rintro e w7 ⟨rfl, rfl⟩
            clear k7
            go_wp2_with fail
            refine k8.mono ?_
            rintro e w8 ⟨ao8, cap8, rfl, hS8, hn8, hB8⟩
            have H8 : Hid (Sl w8 ao8 (ints (nxt (nats ss) (plc (nats ss) K)).1) ∧ (ao8 = none → cap8 = 0) ∧ Below w3.heap.size w3 w8) := ⟨hS8, hn8, (HR.out.1.trans (H6.out.below _)).trans (hB8.mono (by rw [H6.out.heap]; exact HR.out.1.size))⟩
            clear hS8 hn8 hB8 k8
            go_wp2
            go_roundw
            case rel =>
              refine ⟨K + 1, ao8, cap8, by omega, by go_num, rfl, rfl, ?_, ?_, H8.out.2.1, H8.out.2.2⟩
              · rw [HC.out]
              · intro h; rw [← HQ.out h]; exact H8.out.1
            case measure => simp [intOf]; omega
        · by_cases hn : n = (i : Int)
          · have k5 := k5
            obtain ⟨hd2, hp⟩ := hX.same hi' hn
            subst hd2
            have hin : ((i : Int) == n) = true := by simp [hn]
            rw [decide_eq_false hc] at k5
            have HC : Hid ((d1 && decide (K < i + 1)) = f) := by rw [hX.miss hi' hc]; exact HF.out
            have HPP : Hid (p = plcI ss i) := hp
            clear hX hc hn hp
            go_wp2_with fail
            refine k5.mono ?_
            rintro e w5 ⟨rfl, hm⟩
            have H5 : Hid (Sm wr w5) := hm
            clear hm k5
            have k6 := refSame_any ap ao p (plcI ss i) capp cap w5 (by rw [HP.out]; omega) (by rw [HL.out]; omega) (HR.out.2.2.below (H5.out.below _)) (HR.out.2.1.below (H5.out.below _))
            rw [HP.out, HL.out, decide_eq_true HPP.out] at k6
            go_wp2_with fail
            refine k6.mono ?_
            rintro e w6 ⟨rfl, hm⟩
            have H6 : Hid (Sm wr w6) := H5.out.trans hm
            clear hm k6 H5
            have k7 := k7 w6 H6.out
            have k8 := k8 w6 H6.out
            go_wp2_with fail
            refine k7.mono ?_
            rintro e w7 ⟨rfl, rfl⟩
            clear k7
            go_wp2_with fail
            refine k8.mono ?_
            rintro e w8 ⟨ao8, cap8, rfl, hS8, hn8, hB8⟩
            have H8 : Hid (Sl w8 ao8 (ints (nxt (nats ss) (plc (nats ss) i)).1) ∧ (ao8 = none → cap8 = 0) ∧ Below w3.heap.size w3 w8) := ⟨hS8, hn8, (HR.out.1.trans (H6.out.below _)).trans (hB8.mono (by rw [H6.out.heap]; exact HR.out.1.size))⟩
            clear hS8 hn8 hB8 k8
            go_wp2
            go_roundw
            case rel =>
              refine ⟨i + 1, ao8, cap8, by omega, by go_num, rfl, rfl, ?_, ?_, H8.out.2.1, H8.out.2.2⟩
              · rw [HC.out]
              · intro h; rw [← HQ.out h]; exact H8.out.1
            case measure => simp [intOf]; omega
          · have k5 := k5
            have hin : ((i : Int) == n) = false := by simp; omega
            rw [decide_eq_false hc] at k5
            have HC : Hid ((d1 && decide (K < i + 1)) = f) := by rw [hX.miss hi' hc]; exact HF.out
            clear hX hc hn
            go_wp2_with fail
            refine k5.mono ?_
            rintro e w5 ⟨rfl, hm⟩
            have H5 : Hid (Sm wr w5) := hm
            clear hm k5
            have H6 : Hid (Sm wr w5) := H5.out
            clear H5
            have k7 := k7 w5 H6.out
            have k8 := k8 w5 H6.out
            go_wp2_with fail
            refine k7.mono ?_
            rintro e w7 ⟨rfl, rfl⟩
            clear k7
            go_wp2_with fail
            refine k8.mono ?_
            rintro e w8 ⟨ao8, cap8, rfl, hS8, hn8, hB8⟩
            have H8 : Hid (Sl w8 ao8 (ints (nxt (nats ss) (plc (nats ss) i)).1) ∧ (ao8 = none → cap8 = 0) ∧ Below w3.heap.size w3 w8) := ⟨hS8, hn8, (HR.out.1.trans (H6.out.below _)).trans (hB8.mono (by rw [H6.out.heap]; exact HR.out.1.size))⟩
            clear hS8 hn8 hB8 k8
            go_wp2
            go_roundw
            case rel =>
              refine ⟨i + 1, ao8, cap8, by omega, by go_num, rfl, rfl, ?_, ?_, H8.out.2.1, H8.out.2.2⟩
              · rw [HC.out]
              · intro h; rw [← HQ.out h]; exact H8.out.1
            case measure => simp [intOf]; omega
      · have hX := HX.out
        obtain rfl : i = q := by omega
        have hBw : Below w1.heap.size w1 wr := H2.out.1.trans (hB.mono H2.out.1.size)
        have k4 := refSize_any a1 ss c1 wr hX.r (hX.s.below hBw)
        rw [hX.L, hX.q] at k4
        have HBw : Hid (Below w1.heap.size w1 wr) := hBw
        obtain ⟨g1, g2⟩ := hX.fin
        have g3 := hX.d2
        rw [hX.q] at g3
        clear hX hBw hB hSl hno HX
        rw [decide_eq_false hi']
        cases d1
        · obtain rfl := g2 rfl
          have g4 : (false && decide (0 < i)) = false := by simp
          rw [g4]
          clear g4 g1 g2
          by_cases n0 : n < 0
          · have g5 : d2 = false := by rw [← g3]; simp; omega
            subst g5
            clear g3 k4
            go_wp2_with fail
            refine (awake_any _).mono ?_
            rintro e w9 ⟨rfl, hB9⟩
            have H9 : Hid (Below w1.heap.size w1 w9) := HBw.out.trans (hB9.mono HBw.out.size)
            clear hB9
            go_wp2
            go_ret
            exact ⟨rfl, H9.out⟩
          · by_cases n1 : n < (i : Int)
            · have g5 : d2 = true := by rw [← g3]; simp; omega
              subst g5
              clear g3
              go_wp2_with fail
              refine k4.mono ?_
              rintro e w6 ⟨rfl, rfl⟩
              go_wp2_with fail
              refine (awake_any _).mono ?_
              rintro e w9 ⟨rfl, hB9⟩
              have H9 : Hid (Below w1.heap.size w1 w9) := HBw.out.trans (hB9.mono HBw.out.size)
              clear hB9
              go_wp2
              go_ret
              exact ⟨rfl, H9.out⟩
            · have g5 : d2 = false := by rw [← g3]; simp; omega
              have n2 : decide (n < (i : Int)) = false := by simp; omega
              subst g5
              clear g3 n1
              go_wp2_with fail
              refine k4.mono ?_
              rintro e w6 ⟨rfl, rfl⟩
              go_wp2_with fail
              refine (awake_any _).mono ?_
              rintro e w9 ⟨rfl, hB9⟩
              have H9 : Hid (Below w1.heap.size w1 w9) := HBw.out.trans (hB9.mono HBw.out.size)
              clear hB9
              go_wp2
              go_ret
              exact ⟨rfl, H9.out⟩
        · have g := g1 rfl
          have g4 : (true && decide (K < i)) = true := by simp [g]
          rw [g4]
          clear g4 g1 g2
          by_cases n0 : n < 0
          · have g5 : d2 = false := by rw [← g3]; simp; omega
            subst g5
            clear g3 k4
            go_wp2_with fail
            refine (awake_any _).mono ?_
            rintro e w9 ⟨rfl, hB9⟩
            have H9 : Hid (Below w1.heap.size w1 w9) := HBw.out.trans (hB9.mono HBw.out.size)
            clear hB9
            go_wp2
            go_ret
            exact ⟨rfl, H9.out⟩
          · by_cases n1 : n < (i : Int)
            · have g5 : d2 = true := by rw [← g3]; simp; omega
              subst g5
              clear g3
              go_wp2_with fail
              refine k4.mono ?_
              rintro e w6 ⟨rfl, rfl⟩
              go_wp2_with fail
              refine (awake_any _).mono ?_
              rintro e w9 ⟨rfl, hB9⟩
              have H9 : Hid (Below w1.heap.size w1 w9) := HBw.out.trans (hB9.mono HBw.out.size)
              clear hB9
              go_wp2
              go_ret
              exact ⟨rfl, H9.out⟩
            · have g5 : d2 = false := by rw [← g3]; simp; omega
              have n2 : decide (n < (i : Int)) = false := by simp; omega
              subst g5
              clear g3 n1
              go_wp2_with fail
              refine k4.mono ?_
              rintro e w6 ⟨rfl, rfl⟩
              go_wp2_with fail
              refine (awake_any _).mono ?_
              rintro e w9 ⟨rfl, hB9⟩
              have H9 : Hid (Below w1.heap.size w1 w9) := HBw.out.trans (hB9.mono HBw.out.size)
              clear hB9
              go_wp2
              go_ret
              exact ⟨rfl, H9.out⟩
  · have e0 : szI ss = 0 := szI_no hr
    have f1 : decide (0 ≤ n ∧ n < szI ss) = false := by simp [e0]
    have f2 : plcI ss n = [] := if_neg fun c => by omega
    have f3 : offs ss ts = 0 := if_neg fun c => hr c.1
    have f4 : decide (Rgt ss ∧ Inn ss ts) = false := by simp [hr]
    rw [f1, f2] at k2
    rw [f3, f4] at k1
    rw [decide_eq_false hr] at k3
    clear e0 f1 f2 f3 f4 hS hT hr
    generalize ss.length = n1 at *
    generalize ts.length = n2 at *
    go_enter Try.func4, Try.ntmps4
    go_wp2_with fail
    refine k1.mono ?_
    rintro e w1 ⟨rfl, rfl⟩
    go_wp2_with fail
    refine k2.mono ?_
    rintro e w2 ⟨ao1, cap1, rfl, hS1, hB1⟩
    have k3 := k3 w2 hB1
    have H1 : Hid (Below w1.heap.size w1 w2) := hB1
    clear hS1 hB1 k1 k2
    go_wp2_with fail
    refine k3.mono ?_
    rintro e w3 ⟨rfl, rfl⟩
    go_wp2_with fail
    refine (awake_any _).mono ?_
    rintro e w5 ⟨rfl, hB⟩
    have H5 : Hid (Below w1.heap.size w1 w5) := H1.out.trans (hB.mono H1.out.size)
    clear hB
    go_wp2
    go_ret
    exact ⟨rfl, H5.out⟩
end Go.Proofs.Ytjelhhchlffjbaa
