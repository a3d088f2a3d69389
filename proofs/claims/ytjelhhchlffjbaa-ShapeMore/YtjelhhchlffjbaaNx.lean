/-
  append ONTO A SLICE OF ONE'S OWN, WHATEVER IS APPENDED; AND WHAT A CALL OF THE DOCUMENT'S Next GIVES. Conditions: each theorem's own.
-/
import Derived.Test.YtjelhhchlffjbaaPc
namespace Go.Proofs.Ytjelhhchlffjbaa
set_option maxRecDepth 100000
open Go.RowKit
set_option linter.unusedVariables false

/-- numbers, as cells -/
def vals (zs : List Int) : List Value := zs.map (Value.int .i64)
theorem vals_len (zs : List Int) : (vals zs).length = zs.length := by simp [vals]
theorem vals_one (zs : List Int) : ∀ u ∈ vals zs, u.oneCell' = true := by
  intro u hu
  obtain ⟨i, _, rfl⟩ := List.mem_map.1 hu
  rfl
theorem vals_app (a b : List Int) : vals (a ++ b) = vals a ++ vals b := by simp [vals]
theorem addr_add (b off j : Nat) : (⟨b, off, none⟩ : Addr).add j = ⟨b, off + j, none⟩ := by unfold Addr.add; split <;> simp_all
theorem Sl.news {w : World} {ad : Addr} {zs : List Int} (h : Sl w (some ad) zs) : ∀ j u, (vals zs)[j]? = some u → w.cell? (ad.add j) = some u := by
  intro j u hj
  have hlt : j < zs.length := by have := (List.getElem?_eq_some_iff.1 hj).1; rwa [vals_len] at this
  obtain ⟨b, off, e, hc⟩ := h j hlt
  cases e
  rw [addr_add, hc]
  simp only [vals, List.getElem?_map, List.getElem?_eq_getElem hlt, Option.map_some] at hj
  cases hj
  simp [List.getD, hlt]
theorem Sl.of_own {w : World} {base e n : Nat} {v : Value} {zs : List Int} (h : w.ownsRow base e 1 v n (vals zs)) (hn : n = zs.length) :
    ∃ ao cap, v = .slice ao zs.length cap ∧ Sl w ao zs ∧ (ao = none → zs = [] ∧ cap = 0) ∧ zs.length ≤ cap ∧ ∀ b off sp, ao = some ⟨b, off, sp⟩ → off = 0 ∧ base ≤ b ∧ b < w.heap.size ∧ (∀ i, w.frozen? ⟨b, i, none⟩ = false) := by
  have h0 := h
  rcases h.2 with ⟨h1, h2⟩ | ⟨g, c, cur, h1, h2, h3, h4, _⟩
  · subst h1
    have : zs.length = 0 := by have := h.1; rw [vals_len] at this; omega
    refine ⟨none, 0, by rw [this], ?_, fun _ => ⟨List.eq_nil_of_length_eq_zero this, rfl⟩, by omega, fun b off sp hg => by cases hg⟩
    rw [List.eq_nil_of_length_eq_zero this]; exact Sl.nil _ _
  · subst hn
    have h1' : v = .slice (some ⟨g, 0, none⟩) zs.length c := by simpa using h1
    subst h1'
    refine ⟨some ⟨g, 0, none⟩, c, rfl, Sl.mk fun i hi => ?_, (fun h => by cases h), by omega, fun b off sp hg => ?_⟩
    · rw [Nat.zero_add, h0.cellAt i (by omega)]
      simp [vals, List.getD, hi]
    · cases hg
      exact ⟨rfl, h2, (h0.lt g rfl).2, fun i => h0.frozenAt i⟩

/-- append onto a slice of one's own, whatever is appended: nil, empty or not -/
theorem wpList_append_any {P : Program} {w : World} {ops : Array Oper} {rest : List Oper} {o : Oper} {a : Act} {Q : Exit → Act → World → Prop} (hgd : o.guard = none) (s x : Operand) (t : TypeId)
    (ho : o.op = .call { callee := .builtin .append, args := #[s, x], argTypes := #[t, t] })
    (base : Nat) (e : TypeId) (i : TypeInfo) (z : Value) (bytes : Nat) (ht : P.underlying t = some (.slice e)) (hi : P.info? e = some i) (hz : i.zero = some z)
    (hsize : i.size = 1) (hby : i.bytes = bytes) (hzs : z.cells.size = 1)
    (v : Value) (n : Nat) (xs : List Int) (hs : a.eval s = v) (hown : w.ownsRow base e 1 v n (vals xs))
    (ao : Option Addr) (m c : Nat) (zs : List Int) (hx : a.eval x = .slice ao m c) (hl : zs.length = m) (hS : Sl w ao zs) (hN : ao = none → m = 0 ∧ c = 0)
    (h63 : n + m ≤ maxLen) (hbytes : (n + m) * bytes ≤ 140737488355328) (hbase : base ≤ w.heap.size)
    (h : ∀ v' w', w'.ownsRow base e 1 v' (n + m) (vals (xs ++ zs)) → w.grownBy w' v.ownBlock → wpList P ops Q rest (a.put o.dst v') w') : wpList P ops Q (o :: rest) a w := by
  cases ao with
  | some ad =>
    exact wpList_append_own w hgd s x t ho base e i z 1 bytes ht hi hz hsize hby hzs (by decide) v n (vals xs) hs hown ad m c (vals zs) hx (by rw [vals_len]; omega) hS.news (vals_one zs) h63 hbytes hbase
      (fun v' w' h1 h2 _ => h v' w' (by rw [vals_app]; exact h1) h2)
  | none =>
    obtain ⟨rfl, rfl⟩ := hN rfl
    obtain rfl : zs = [] := List.eq_nil_of_length_eq_zero hl
    refine wpList_plain hgd fun K hK' => ?_
    have hrun := run_append_owned_none (P := P) w base t o.type e i 1 ht hi v n (vals xs) hown
    unfold Oper.wp
    simp [execOp, ho, resolve, invoke, builtin, hs, hx, hrun, Result.andThen]
    exact hK' _ _ (h v w (by simpa using hown) (World.grownBy.refl _ _))

theorem nxt_app {s2 t2 : List Nat} (h : (nxt s2 t2).2 = true) : ∀ {s1 t1 : List Nat}, t1.length = s1.length → nxt (s1 ++ s2) (t1 ++ t2) = (t1 ++ (nxt s2 t2).1, true) := by
  intro s1
  induction s1 with
  | nil => intro t1 hl; cases t1 with
    | nil => simp only [List.nil_append]; rw [← h]
    | cons x t => simp at hl
  | cons a s ih => intro t1 hl; cases t1 with
    | nil => simp at hl
    | cons x t =>
      simp only [List.cons_append, nxt]
      rw [ih (by simpa using hl)]
      simp
theorem nxt_zeros : ∀ {s t : List Nat}, t.length = s.length → (nxt s t).2 = false → (nxt s t).1 = List.replicate s.length 0 := by
  intro s
  induction s with
  | nil => intro t hl h; cases t with
    | nil => rfl
    | cons x t => simp at hl
  | cons a s ih => intro t hl h; cases t with
    | nil => simp at hl
    | cons x t =>
      by_cases c : (nxt s t).2 = true
      · simp [nxt, c] at h
      · by_cases d : x + 1 < a
        · simp [nxt, c, d] at h
        · have := ih (t := t) (by simpa using hl) (by simpa using c)
          simp [nxt, c, d, this, List.replicate_succ]
theorem nxt_len : ∀ {s t : List Nat}, t.length = s.length → (nxt s t).1.length = s.length := by
  intro s
  induction s with
  | nil => intro t hl; cases t with
    | nil => rfl
    | cons x t => simp at hl
  | cons a s ih => intro t hl; cases t with
    | nil => simp at hl
    | cons x t =>
      have := ih (t := t) (by simpa using hl)
      by_cases c : (nxt s t).2 = true
      · simp [nxt, c, this]
      · by_cases d : x + 1 < a <;> simp [nxt, c, d, this]
theorem drop_cons (s : List Nat) (k : Nat) (h : k < s.length) : s.drop k = s.getD k 0 :: s.drop (k + 1) := by
  rw [List.drop_eq_getElem_cons h]; simp [List.getD, h]
/-- the place behind one where the numbers behind are the last ones -/
theorem nxt_hit {s t : List Nat} {k : Nat} (hl : t.length = s.length) (hk : k < s.length) (h : (nxt (s.drop (k + 1)) (t.drop (k + 1))).2 = false) (hx : t.getD k 0 + 1 < s.getD k 0) :
    nxt s t = (t.take k ++ (t.getD k 0 + 1) :: List.replicate (s.length - (k + 1)) 0, true) := by
  have e : nxt (s.drop k) (t.drop k) = ((t.getD k 0 + 1) :: List.replicate (s.length - (k + 1)) 0, true) := by
    rw [drop_cons s k hk, drop_cons t k (by omega)]
    have z := nxt_zeros (s := s.drop (k + 1)) (t := t.drop (k + 1)) (by simp; omega) h
    rw [List.length_drop] at z
    simp only [nxt, h, hx, z]
    simp
  have a := nxt_app (s2 := s.drop k) (t2 := t.drop k) (by rw [e]) (s1 := s.take k) (t1 := t.take k) (by simp; omega)
  rw [List.take_append_drop, List.take_append_drop, e] at a
  exact a
theorem nxt_miss {s t : List Nat} {k : Nat} (hl : t.length = s.length) (hk : k < s.length) (h : (nxt (s.drop (k + 1)) (t.drop (k + 1))).2 = false) (hx : ¬ t.getD k 0 + 1 < s.getD k 0) :
    (nxt (s.drop k) (t.drop k)).2 = false := by
  rw [drop_cons s k hk, drop_cons t k (by omega)]
  simp only [nxt, h, hx]
  simp

theorem inn_at {s t : List Nat} (h : inn s t = true) {k : Nat} (hk : k < s.length) : t.getD k 0 < s.getD k 0 := by
  induction s generalizing t k with
  | nil => simp at hk
  | cons a s ih => cases t with
    | nil => cases h
    | cons x t =>
      simp [inn] at h
      cases k with
      | zero => simpa using h.1
      | succ k => simpa using ih h.2 (k := k) (by simpa using hk)
theorem nats_getD (zs : List Int) (k : Nat) : (nats zs).getD k 0 = (zs.getD k 0).toNat := by
  simp only [nats, List.getD, List.getElem?_map]
  cases zs[k]? <;> rfl
theorem Ow.drew {w : World} {b n : Nat} {f : Nat → Nat} (h : Ow w b f n) : Ow w.drew b f n := ⟨h.cell, h.frz, h.lt⟩
theorem hit_at {t : List Nat} {o : Nat → Nat} {k n x i : Nat} (hl : t.length = n) (hk : k < n) (hi : i < n) (ho : ∀ j, j < n → o j = if j < k + 1 then t.getD j 0 else 0) :
    up o k (x + 1) i = (t.take k ++ (x + 1) :: List.replicate (n - (k + 1)) 0).getD i 0 := by
  have e : (t.take k).length = k := by simp; omega
  by_cases c : i = k
  · subst c; rw [up_same]; simp [List.getD, e]
  · rw [up_other _ _ c, ho i hi]
    by_cases d : i < k
    · rw [if_pos (by omega)]; simp [List.getD, List.getElem?_append_left (show i < (t.take k).length by omega), d]
    · rw [if_neg (by omega)]
      obtain ⟨m, rfl⟩ : ∃ m, i = k + (m + 1) := ⟨i - k - 1, by omega⟩
      have h2 : m < n - (k + 1) := by omega
      simp [List.getD, e, h2]

set_option maxHeartbeats 1000000 in
theorem next_any (a1 a2 : Option Addr) (ss : List Int) (tn : List Nat) (c1 c2 : Nat) (w : World) (hr : Rgt ss) (hin : inn (nats ss) tn = true) (hS : Sl w a1 ss) (hT : Sl w a2 (ints tn)) (hN : a2 = none → c2 = 0) :
    Calls Try.prog 19 #[.slice a1 ss.length c1, .slice a2 ss.length c2] w fun e w' => ∃ ao cap, e = .returned (.tuple #[.slice ao ss.length cap, .bool (nxt (nats ss) tn).2]) ∧ Sl w' ao (ints (nxt (nats ss) tn).1) ∧ (ao = none → cap = 0) ∧ Below w.heap.size w w' := by
  obtain ⟨i0, hi, hz0, hz1, hz2⟩ := info_parts Try.info3
  have hl4 := hr.out.1
  have HR : Hid (Rgt ss ∧ inn (nats ss) tn = true) := ⟨hr, hin⟩
  obtain ⟨k0, hk0⟩ : ∃ k, ss.length = k := ⟨_, rfl⟩
  have hl2 : (ints tn).length = k0 := by rw [ints_len, inn_len hin, nats_len, hk0]
  have HN : Hid (ss.length = k0 ∧ tn.length = k0) := ⟨hk0, by rw [← ints_len, hl2]⟩
  have hN' : a2 = none → k0 = 0 ∧ c2 = 0 := by
    intro h
    refine ⟨?_, hN h⟩
    rcases Nat.eq_zero_or_pos k0 with c | c
    · exact c
    · obtain ⟨b, off, e, _⟩ := hT 0 (by omega)
      rw [h] at e; cases e
  rw [hk0] at hl4
  rw [hk0]
  have HS : Hid (Sl w a1 ss) := hS
  clear hk0 hS hN hr hin
  have hnil : w.ownsRow w.heap.size 3 1 (.slice none 0 0) 0 (vals []) := World.ownsRow_nil w _ _ _
  go_enter Try.func19, Try.ntmps19
  go_wp2_with (first | (at_builtin; refine wpList_append_any rfl _ _ 22 rfl w.heap.size 3 i0 (.int .i64 0) 8 Try.underlying22 hi hz0 hz1 hz2 rfl _ 0 [] rfl hnil a2 k0 c2 (ints tn) rfl hl2 hT hN' (by unfold maxLen; omega) (by omega) (Nat.le_refl _) ?_))
  intro v w1 hown hgrow
  obtain ⟨ao, cap, rfl, hSl, hnone, hcap, hsome⟩ := Sl.of_own hown hl2.symm
  rw [hl2] at hcap ⊢
  have hB : Below w.heap.size w w1 := (Below.refl _ _).grown hgrow (Nat.le_refl _) (fun k h => by cases h)
  clear hown hgrow hnil hT hN'
  rcases Nat.eq_zero_or_pos k0 with hz | hpos
  · subst hz
    have e1 : ss = [] := List.eq_nil_of_length_eq_zero HN.out.1
    have e2 : tn = [] := List.eq_nil_of_length_eq_zero HN.out.2
    have e3 : (nxt (nats ss) tn).2 = false := by rw [e1, e2]; rfl
    have e4 : ints (nxt (nats ss) tn).1 = [] := by rw [e1, e2]; rfl
    have HE : Hid ((nxt (nats ss) tn).2 = false ∧ ints (nxt (nats ss) tn).1 = []) := ⟨e3, e4⟩
    have HA : Hid (ao = none → cap = 0) := fun h => (hnone h).2
    clear e1 e2 e3 e4 hsome hnone HR HN HS hSl hl2
    go_wp2
    refine wp_loop_rounds 1 ?_
    rw [rounds_succ]
    go_wp2
    go_ret2
    rw [HE.out.1, HE.out.2]
    exact ⟨ao, cap, rfl, Sl.nil _ _, HA.out, hB⟩
  · obtain ⟨g, o0, rfl, hc0⟩ := hSl 0 (by omega)
    obtain ⟨rfl, hg1, hg2, hg3⟩ := hsome _ _ _ rfl
    have hO1 : Ow w1 g (fun i => tn.getD i 0) k0 := by
      refine ⟨fun i hi => ?_, hg3, hg2⟩
      have := hSl.at (i := i) (by omega)
      rw [Nat.zero_add, ints_getD] at this
      exact this
    clear hsome hnone hSl hc0 hg3 hg2
    go_wp2_with fail
    go_loopw [7] (fun i wr => ∃ k o, k ≤ k0 ∧ i = .int .i64 ((k : Int) - 1) ∧ Ow wr g o k0 ∧ (∀ j, j < k0 → o j = if j < k then tn.getD j 0 else 0) ∧ (nxt ((nats ss).drop k) (tn.drop k)).2 = false ∧ Below w.heap.size w wr) (fun i _ => (intOf i + 1).toNat)
    case atStart =>
      refine ⟨k0, fun i => tn.getD i 0, Nat.le_refl _, by go_num, hO1, fun j hj => by rw [if_pos hj], ?_, hB⟩
      rw [List.drop_of_length_le (by rw [nats_len, HN.out.1]; exact Nat.le_refl _)]
      rfl
    case round =>
      obtain ⟨k, o, hk, rfl, hO, ho, hx, hB'⟩ := hrel
      clear hO1 hB
      have HX : Hid ((∀ j, j < k0 → o j = if j < k then tn.getD j 0 else 0) ∧ (nxt ((nats ss).drop k) (tn.drop k)).2 = false) := ⟨ho, hx⟩
      clear ho hx
      by_cases h : 0 < k
      · obtain ⟨k, rfl⟩ : ∃ k', k = k' + 1 := ⟨k - 1, by omega⟩
        have hks : k < ss.length := by rw [HN.out.1]; omega
        obtain ⟨b, off, rfl, hc⟩ := HS.out k hks
        have hb1 : b < w.heap.size := cell_lt hc
        rw [← hB'.cell (p := ⟨b, off + k, none⟩) hb1] at hc
        have hb2 : ¬ b = g := by omega
        have hb3 : ¬ g = b := by omega
        clear hb1
        have h1 := (HR.out.1.at hks).1
        have h65 : ss.getD k 0 ≤ 64 := by
          have := (HR.out.1.at hks).2
          have p := (HR.out.1.pf k).one_le
          have := Nat.le_mul_of_pos_left (ss.getD k 0).toNat p
          omega
        have hxa := inn_at HR.out.2 (k := k) (by rw [nats_len]; exact hks)
        rw [nats_getD] at hxa
        obtain ⟨a, ha⟩ : ∃ a : Nat, ss.getD k 0 = a := ⟨(ss.getD k 0).toNat, by omega⟩
        obtain ⟨x, hx⟩ : ∃ x, tn.getD k 0 = x := ⟨_, rfl⟩
        have HA : Hid (ss.getD k 0 = a ∧ k < ss.length ∧ tn.getD k 0 = x) := ⟨ha, hks, hx⟩
        rw [ha] at hc h1 h65 hxa
        rw [hx, Int.toNat_natCast] at hxa
        clear ha hks hx
        have ek : ((k + 1 : Nat) : Int) - 1 = (k : Int) := by omega
        rw [ek]
        have hcl := hO.cell k (by omega)
        have hok := HX.out.1 k (by omega)
        rw [if_pos (by omega), HA.out.2.2] at hok
        rw [hok] at hcl
        clear hok
        have hfz := hO.frz k
        have hst := hO.store (j := k) (by omega) (x + 1)
        by_cases hlt : x + 1 < a
        · have hlt' : (x : Int) + 1 < (a : Int) := by omega
          go_wp2
          go_region
          go_wp2
          go_ret2
          have hh := nxt_hit (s := nats ss) (t := tn) (k := k) (by rw [nats_len, HN.out.1, HN.out.2]) (by rw [nats_len]; exact HA.out.2.1) HX.out.2 (by rw [nats_getD, HA.out.1, HA.out.2.2]; exact hlt)
          rw [HA.out.2.2, nats_len, HN.out.1] at hh
          rw [hh]
          have hst2 : Ow (wr.setCell ⟨g, k, none⟩ (.int .i64 ((x : Int) + 1))) g (up o k (x + 1)) k0 := by simpa using hst
          refine ⟨some ⟨g, 0, none⟩, cap, rfl, hst2.drew.sl (by simp [HN.out.2]; omega) (fun i hi => ?_), (fun h => by cases h), (hB'.setCell hg1 _).drew⟩
          exact hit_at HN.out.2 (by omega) hi HX.out.1
        · have hlt' : ¬ (x : Int) + 1 < (a : Int) := by omega
          go_wp2
          go_region
          go_wp2
          go_roundw
          case rel =>
            have hst2 : Ow (wr.setCell ⟨g, k, none⟩ (.int .i64 ((x : Int) + 1))) g (up o k (x + 1)) k0 := by simpa using hst
            have hst3 := (hst2.store (j := k) (by omega) 0).drew
            refine ⟨k, up (up o k (x + 1)) k 0, by omega, by go_num, by simpa using hst3, fun j hj => ?_, ?_, ((hB'.setCell hg1 _).setCell hg1 _).drew⟩
            · by_cases c : j = k
              · subst c; rw [up_same, if_neg (by omega)]
              · rw [up_other _ _ c, up_other _ _ c, HX.out.1 j hj]
                by_cases d : j < k
                · rw [if_pos d, if_pos (by omega)]
                · rw [if_neg d, if_neg (by omega)]
            · exact nxt_miss (by rw [nats_len, HN.out.1, HN.out.2]) (by rw [nats_len]; exact HA.out.2.1) HX.out.2 (by rw [nats_getD, HA.out.1, HA.out.2.2]; exact hlt)
          case measure => simp [intOf]
      · obtain rfl : k = 0 := by omega
        go_wp2
        go_ret2
        have e2 := HX.out.2
        rw [List.drop_zero, List.drop_zero] at e2
        have e3 := nxt_zeros (s := nats ss) (t := tn) (by rw [nats_len, HN.out.1, HN.out.2]) e2
        rw [e2, e3, nats_len, HN.out.1]
        refine ⟨some ⟨g, 0, none⟩, cap, rfl, hO.sl (by simp) (fun i hi => ?_), (fun h => by cases h), hB'⟩
        rw [HX.out.1 i hi, if_neg (by omega)]
        simp [List.getD, hi]
end Go.Proofs.Ytjelhhchlffjbaa
