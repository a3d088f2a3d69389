/-
  STATEMENTS OF A TEXT: what they may hold at the most; two slices of them in memory; 'append' to one's data leaves them as they are. Conditions: each theorem's own.
-/
import Derived.Test.YtadgnafafdfioaaGreatDoorRF
import Derived.Test.YtadgnafafdfioaaGreatDoorBB
import Derived.Deep.DeepAppendRoom
import Derived.ArgAppend
namespace Go.Proofs.YtadgnafafdfioaaGreatDoor.Gr
open Go.Proofs.YtadgnafafdfioaaGreatDoor.Rd
set_option maxRecDepth 100000
open Go.RowKit
set_option linter.unusedVariables false
set_option linter.unusedSimpArgs false

theorem giv_sb {a b : ByteArray} {r : List ByteArray} {s : Rd.Sm} (h : giv a b r = some s) (hb : b.size ≤ 20000) : Sb s := by
  unfold giv at h
  split at h
  · rename_i d hd
    split at h
    · cases h
      have := dms_len hd
      exact ⟨hb, fun x hx => (by cases hx), by show d.length ≤ 1000; omega, Nat.zero_le _, Nat.zero_le _, fun x hx => (by cases hx)⟩
    · cases h
  · cases h
theorem cut_mem : ∀ {r x y : List ByteArray}, cutEq r = some (x, y) → (∀ z ∈ y, z ∈ r) ∧ y.length ≤ r.length
  | [], x, y, h => by cases h
  | z :: l, x, y, h => by
    unfold cutEq at h
    split at h
    · cases h; exact ⟨fun z hz => List.mem_cons_of_mem _ hz, by simp⟩
    · cases h1 : cutEq l with
      | none => simp [h1] at h
      | some p =>
        obtain ⟨p1, p2⟩ := p
        simp [h1] at h
        obtain ⟨rfl, rfl⟩ := h
        have := cut_mem h1
        exact ⟨fun z hz => List.mem_cons_of_mem _ (this.1 z hz), by simp; omega⟩
theorem con_sb {a b : ByteArray} {r : List ByteArray} {s : Rd.Sm} (h : con a b r = some s) (hb : b.size ≤ 20000) (hr : ∀ x ∈ r, x.size ≤ 20000) (hl : r.length ≤ 1000000) : Sb s := by
  unfold con at h
  split at h
  · rename_i x y hc
    have hy := cut_mem hc
    split at h
    · split at h
      · rename_i d hd
        split at h
        · cases h
          have := dms_len hd
          exact ⟨hb, fun x hx => (by cases hx), by show d.length ≤ 1000; omega, Nat.zero_le _, by show y.length ≤ _; omega, fun z hz => hr z (hy.1 z hz)⟩
        · cases h
      · cases h
    · cases h
  · cases h
theorem fin_sb {a op : ByteArray} {args r : List ByteArray} {s : Rd.Sm} (h : fin a op args r = some s) (ha : a.size ≤ 20000) (hg : ∀ x ∈ args, x.size ≤ 20000) (hr : ∀ x ∈ r, x.size ≤ 20000) : Sb s := by
  unfold fin at h
  split at h
  · cases hd : dms r with
    | none => simp [hd] at h
    | some d =>
      simp [hd] at h
      subst h
      have := dms_len hd
      exact ⟨ha, hg, by show d.length ≤ 1000; omega, Nat.zero_le _, Nat.zero_le _, fun x hx => (by cases hx)⟩
  · split at h
    · split at h
      · split at h
        · cases h
          exact ⟨ha, hg, Nat.zero_le _, hr _ (by simp), Nat.zero_le _, fun x hx => (by cases hx)⟩
        · cases h
      · cases h
    · split at h
      · split at h
        · split at h
          · split at h
            · cases h
              exact ⟨ha, hg, Nat.zero_le _, Nat.zero_le _, Nat.zero_le _, fun x hx => (by cases hx)⟩
            · cases h
          · cases h
        · cases h
      · split at h
        · cases h
          exact ⟨ha, hg, Nat.zero_le _, Nat.zero_le _, Nat.zero_le _, fun x hx => (by cases hx)⟩
        · cases h
theorem par_sb {ws : List ByteArray} {s : Rd.Sm} (h : par ws = some s) (hw : ∀ x ∈ ws, x.size ≤ 20000) (hl : ws.length ≤ 1000000) : Sb s := by
  match ws, h with
  | [], h => cases h
  | [a], h => cases h
  | a :: b :: r, h =>
    have ha := hw a (by simp)
    have hb := hw b (by simp)
    have hr : ∀ x ∈ r, x.size ≤ 20000 := fun x hx => hw x (by simp [hx])
    have hlr : r.length ≤ 1000000 := by simp at hl; omega
    rw [par_two] at h
    split at h
    · match r, h with
      | [], h => cases h
      | op :: parts, h =>
        rw [opn_cons] at h
        split at h
        · exact fin_sb h ha (fun x hx => hr x (List.mem_cons_of_mem _ (List.mem_of_mem_take hx))) (fun x hx => hr x (List.mem_cons_of_mem _ (List.mem_of_mem_drop hx)))
        · cases h
    · split at h
      · exact giv_sb h hb
      · split at h
        · exact con_sb h hb hr hlr
        · split at h
          · split at h
            · cases h
              exact ⟨Nat.zero_le _, fun x hx => (by simp at hx; subst hx; exact hb), Nat.zero_le _, Nat.zero_le _, Nat.zero_le _, fun x hx => (by cases hx)⟩
            · cases h
          · cases h
theorem alls_sb : ∀ {L : List (Nat × List (List UInt8))} {l : List Rd.Sm}, alls L = some l → (∀ x ∈ L, ∀ y ∈ bas x.2, y.size ≤ 20000) → (∀ x ∈ L, (bas x.2).length ≤ 1000000) → ∀ s ∈ l, Sb s
  | [], l, h, _, _, s, hs => by cases h; cases hs
  | x :: L, l, h, h1, h2, s, hs => by
    rw [alls_cons] at h
    cases e1 : par (bas x.2) with
    | none => simp [e1] at h
    | some a =>
      cases e2 : alls L with
      | none => simp [e1, e2] at h
      | some m =>
        simp only [e1, e2, Option.some.injEq] at h
        subst h
        rcases List.mem_cons.1 hs with rfl | hs
        · exact par_sb e1 (h1 x (by simp)) (h2 x (by simp))
        · exact alls_sb e2 (fun y hy => h1 y (List.mem_cons_of_mem _ hy)) (fun y hy => h2 y (List.mem_cons_of_mem _ hy)) s hs
theorem alls_len : ∀ {L : List (Nat × List (List UInt8))} {l : List Rd.Sm}, alls L = some l → l.length = L.length
  | [], l, h => by cases h; rfl
  | x :: L, l, h => by
    rw [alls_cons] at h
    cases e1 : par (bas x.2) with
    | none => simp [e1] at h
    | some a =>
      cases e2 : alls L with
      | none => simp [e1, e2] at h
      | some m =>
        simp only [e1, e2, Option.some.injEq] at h
        subst h
        simp [alls_len e2]

/-- of a row that is longer -/
theorem own_prefix {w : World} {B e size g n m cap : Nat} {xs ys : List Value} (h : w.ownsRow B e size (.slice (some ⟨g, 0, none⟩) (n + m) cap) (n + m) (xs ++ ys)) (hl : xs.length = n * size) : w.ownsRow B e size (.slice (some ⟨g, 0, none⟩) n cap) n xs := by
  refine ⟨hl, .inr ?_⟩
  rcases h.2 with ⟨h1, _⟩ | ⟨g', cap', cur, h1, h2, h3, h4, h5, h6, h7⟩
  · cases h1
  · simp only [Value.slice.injEq, Option.some.injEq, Addr.mk.injEq, and_true, true_and] at h1
    obtain ⟨rfl, rfl⟩ := h1
    refine ⟨g, cap, cur, rfl, h2, h3, by omega, h5, h6, ?_⟩
    have := congrArg (List.take (n * size)) h7
    rw [List.take_take, Nat.min_eq_left (Nat.mul_le_mul_right _ (by omega)), ← hl, List.take_left] at this
    rw [← hl]
    exact this
/-- 'append' to a row of one's own: the row itself stands, too -/
theorem wpList_append_kept {P : Program} (w : World) {ops : Array Oper} {rest : List Oper} {o : Oper} {a : Act} {Q : Exit → Act → World → Prop} (hgd : o.guard = none) (s x : Operand) (t : TypeId)
    (ho : o.op = .call { callee := .builtin .append, args := #[s, x], argTypes := #[t, t] })
    (base : Nat) (e : TypeId) (i : TypeInfo) (z : Value) (size bytes : Nat) (ht : P.underlying t = some (.slice e)) (hi : P.info? e = some i) (hz : i.zero = some z) (hsize : i.size = size) (hby : i.bytes = bytes) (hzs : z.cells.size = size) (hsz : 0 < size)
    (v : Value) (n : Nat) (xs : List Value) (hs : a.eval s = v) (hown : w.ownsRow base e size v n xs)
    (ad : Addr) (m c : Nat) (news : List Value) (hx : a.eval x = .slice (some ad) m c) (hl : news.length = m * size) (hnews : ∀ j u, news[j]? = some u → w.cell? (ad.add j) = some u) (h1 : ∀ u ∈ news, u.oneCell' = true)
    (h63 : n + m ≤ maxLen) (hbytes : (n + m) * bytes ≤ 140737488355328) (hb : base ≤ w.heap.size) (hm : 0 < m)
    (h : ∀ v' w', w'.ownsRow base e size v' (n + m) (xs ++ news) → w'.ownsRow base e size v n xs → w.grownBy w' v.ownBlock → wpList P ops Q rest (a.put o.dst v') w') : wpList P ops Q (o :: rest) a w := by
  have hnone : w.ownsRow base e size v n xs → ∀ v' w', w'.ownsRow w.heap.size e size v' (n + m) (xs ++ news) → w.grownBy w' none → wpList P ops Q rest (a.put o.dst v') w' := fun ho v' w' h1 h2 => by
    refine h v' w' (Lx.own_mono h1 hb) (ho.kept h2 ?_) ⟨h2.os, h2.tape, h2.output, h2.size, fun k hk _ => h2.block k hk (by simp)⟩
    cases v.ownBlock <;> simp
  rcases hown.2 with ⟨rfl, rfl⟩ | ⟨g, cap, cur, rfl, h2, h3, h4, h5, h6, h7⟩
  · have : xs = [] := List.eq_nil_of_length_eq_zero (by simpa using hown.1)
    subst this
    exact wpList_append_grows w hgd s x t ho e i z size bytes ht hi hz hsize hby hzs hsz none 0 0 [] hs (fun _ => ⟨rfl, rfl⟩) (by simp) (fun b hb => by cases hb) ad m c news hx hl hnews h1 (by omega) h63 hbytes (hnone hown)
  · by_cases hr : n + m ≤ cap
    · exact wpList_append_own_spare w hgd s x t ho base e i size ht hi hsize g n cap xs hs hown ad m c news hx hl hnews h1 hr (fun w' k1 k2 => h _ w' k1 (own_prefix k1 hown.1) k2)
    · refine wpList_append_grows w hgd s x t ho e i z size bytes ht hi hz hsize hby hzs hsz (some ⟨g, 0, none⟩) n cap xs hs (fun h => by cases h) hown.1 (fun b hb j u hu => ?_) ad m c news hx hl hnews h1 (by omega) h63 hbytes (hnone hown)
      cases hb
      rw [row_add, Nat.zero_add]
      have hj := (List.getElem?_eq_some_iff.1 hu).1
      rw [hown.cellAt j (by rw [← hown.1]; exact hj)]
      exact hu
/-- an empty row, in whatever block of that kind -/
theorem own_zero {w w' : World} {B B2 e n : Nat} {v v2 : Value} {xs ys : List Value} (h : w.ownsRow B e 1 v n xs) (h' : w'.ownsRow B e 1 v n xs) (hg : w.grownBy w' v.ownBlock) (h2 : w.ownsRow B2 e 1 v2 0 ys) : w'.ownsRow B2 e 1 v2 0 ys := by
  refine ⟨h2.1, ?_⟩
  rcases h2.2 with c | ⟨g2, cap2, cur2, rfl, a2, a3, a4, a5, a6, a7⟩
  · exact .inl c
  · right
    by_cases hb : v.ownBlock = some g2
    · rcases h.2 with ⟨rfl, _⟩ | ⟨g, cap, cur, rfl, b2, b3, b4, b5, b6, b7⟩
      · cases hb
      · simp only [Value.ownBlock, Option.some.injEq] at hb
        subst hb
        rw [a3] at b3
        simp only [Option.some.injEq, Obj.cells.injEq, and_true] at b3
        subst b3
        rcases h'.2 with ⟨c, _⟩ | ⟨g', cap', cur', e', c2, c3, c4, c5, c6, c7⟩
        · cases c
        · simp only [Value.slice.injEq, Option.some.injEq, Addr.mk.injEq, and_true, true_and] at e'
          obtain ⟨rfl, rfl⟩ := e'
          refine ⟨_, cap2, cur', rfl, a2, c3, Nat.zero_le _, a5, by omega, ?_⟩
          have : ys = [] := List.eq_nil_of_length_eq_zero (by simpa using h2.1)
          simp [this]
    · exact ⟨g2, cap2, cur2, rfl, a2, by rw [hg.block g2 (Array.getElem?_eq_some_iff.1 a3).1 (fun c => hb c.symm)]; exact a3, a4, a5, a6, a7⟩
theorem own_rebase {w w' : World} {B B2 e s n : Nat} {v : Value} {xs : List Value} (h : w.ownsRow B e s v n xs) (h' : w'.ownsRow B2 e s v n xs) : w'.ownsRow B e s v n xs := by
  refine ⟨h'.1, ?_⟩
  rcases h.2 with c | ⟨g, cap, cur, rfl, a2, a3, a4⟩
  · exact .inl c
  · right
    rcases h'.2 with ⟨c, _⟩ | ⟨g', cap', cur', e', c2, c3, c4⟩
    · cases c
    · simp only [Value.slice.injEq, Option.some.injEq, Addr.mk.injEq, and_true, true_and] at e'
      obtain ⟨rfl, rfl⟩ := e'
      exact ⟨g, cap, cur', rfl, a2, c3, c4⟩
/-- a statement, its data's row appended to -/
theorem So.spared {w w' : World} {B B2 : Nat} {name op k : ByteArray} {ua ud ut : Value} {n : Nat} {s : Rd.Sm} (h : So w B (sv name op ua ud k n ut) s) (h' : w'.ownsRow B2 9 1 ut s.data.length (txts s.data)) (hg : w.grownBy w' ut.ownBlock) : So w' B (sv name op ua ud k n ut) s := by
  obtain ⟨ua', ud', ut', e, p1, p2, p3, p4⟩ := h
  have he := e
  simp only [sv, Value.agg.injEq, Array.mk.injEq, List.cons.injEq, and_true] at e
  obtain ⟨e1, e2, rfl, rfl, e3, e4, rfl⟩ := e
  refine ⟨ua, ud, ut, he, ?_, Lx.own_grown p2 p3 (by decide) hg, own_rebase p3 h', p4⟩
  rcases p4 with p4 | p4
  · have e : s.args.length = 0 := by rw [p4]; rfl
    unfold Ob at p1 ⊢
    rw [e] at p1 ⊢
    exact own_zero p3 (own_rebase p3 h') hg p1
  · subst p4
    exact p1.kept hg (by cases ua.ownBlock <;> simp [Value.ownBlock])
/-- another statement -/
theorem So.spared2 {w w' : World} {B g : Nat} {u ut : Value} {s : Rd.Sm} {m : Nat} {ys : List Value} {B2 : Nat} (h : So w B u s) (h2 : w.ownsRow B2 9 1 ut m ys) (hg : w.grownBy w' ut.ownBlock) (ha : ∀ g, ut.ownBlock = some g → ¬ Ub u g) : So w' B u s := by
  obtain ⟨ua, ud, ud2, rfl, p1, p2, p3, p4⟩ := h
  have off : ∀ x, (cls (sv s.name s.op ua ud s.k s.n ud2))[2]? = some x ∨ (cls (sv s.name s.op ua ud s.k s.n ud2))[6]? = some x → x.ownBlock = none ∨ x.ownBlock ≠ ut.ownBlock := fun x hx => by
    cases hb : x.ownBlock with
    | none => exact .inl rfl
    | some b => exact .inr fun c => ha b c.symm ⟨x, hx, hb⟩
  exact ⟨ua, ud, ud2, rfl, p1.kept hg (off _ (.inl rfl)), Lx.own_grown p2 h2 (by decide) hg, p3.kept hg (off _ (.inr rfl)), p4⟩
/-- all statements, one's data's row appended to -/
theorem Lo.spared {w w' : World} {B i n : Nat} {name op k : ByteArray} {ua ud ut v : Value} {us : List Value} {ss : List Rd.Sm} {s : Rd.Sm} {B2 : Nat} (h : Lo w B v us ss) (hp : Rd.Pw w B us ss) (hu : us[i]? = some (sv name op ua ud k n ut)) (hs : ss[i]? = some s)
    (h2 : w.ownsRow B2 9 1 ut s.data.length (txts s.data)) (h' : w'.ownsRow B2 9 1 ut s.data.length (txts s.data)) (hg : w.grownBy w' ut.ownBlock) : Lo w' B v us ss ∧ Rd.Pw w' B us ss := by
  have hub : ∀ g, ut.ownBlock = some g → Ub (sv name op ua ud k n ut) g := fun g hb => ⟨ut, .inr rfl, hb⟩
  obtain ⟨s', hs', hSi⟩ := h.all.get hu
  rw [hs] at hs'
  cases hs'
  have one : ∀ (j B : Nat) (u : Value) (t : Rd.Sm), us[j]? = some u → ss[j]? = some t → So w B u t → So w' B u t := fun j B3 u t hj ht hS => by
    by_cases hij : j = i
    · subst hij
      rw [hu] at hj; cases hj
      rw [hs] at ht; cases ht
      exact So.spared hS h' hg
    · refine So.spared2 (g := 0) hS h2 hg fun g hb hg' => ?_
      rcases Nat.lt_or_gt_of_ne hij with hlt | hlt
      · have := (So.ub (hp.2 j i _ _ _ g hlt hj hu hs hg') (hub g hb)).1
        omega
      · have := (So.ub (hp.2 i j _ _ _ g hlt hu hj ht (hub g hb)) hg').1
        omega
  refine ⟨⟨Lx.own_grown h.own h2 (by decide) hg, ?_⟩, ⟨fun j u t h1 h3 => one j _ _ _ h1 h3 (hp.1 j u t h1 h3), fun j j2 u v2 t g hjj h1 h3 h4 h5 => one j2 _ _ _ h3 h4 (hp.2 j j2 u v2 t g hjj h1 h3 h4 h5)⟩⟩
  have hall := h.all
  clear h
  have key : ∀ (us : List Value) (ss : List Rd.Sm), Lw w us ss → (∀ (j B : Nat) (u : Value) (t : Rd.Sm), us[j]? = some u → ss[j]? = some t → So w B u t → So w' B u t) → Lw w' us ss := by
    intro us
    induction us with
    | nil => intro ss h _; cases ss with
      | nil => exact True.intro
      | cons => exact h.elim
    | cons u us ih => intro ss h hh; cases ss with
      | nil => exact h.elim
      | cons t ss => exact ⟨hh 0 _ _ _ rfl rfl h.1, ih ss h.2 fun j B u t h1 h2 => hh (j + 1) B u t (by simpa using h1) (by simpa using h2)⟩
  exact key us ss hall one
/-- statements in a row of one's own, as they are read -/
theorem ssl_of {w : World} {B e n cap : Nat} {ao : Option Addr} {us : List Value} {ss : List Rd.Sm} (h : w.ownsRow B e 7 (.slice ao n cap) ss.length (flat us)) (ha : Lw w us ss) : Ssl w ao ss := by
  intro i hi
  have hg : ss[i]? = some (ss.getD i zr) := by simp [List.getD, hi]
  obtain ⟨u, _, hu, hf⟩ := flat_at ha hg
  obtain ⟨ua, ud, ut, rfl, p1, p2, p3⟩ := hu
  obtain ⟨aa, ca, rfl, r1, _⟩ := p1.form
  obtain ⟨sa, cz, rfl, r2⟩ := p2.form
  obtain ⟨da, ct, rfl, r3, _⟩ := p3.1.form
  rcases h.2 with ⟨h1, h2⟩ | ⟨g, c, cur, h1, h2, h3, h4, h5, _⟩
  · omega
  · simp only [Value.slice.injEq] at h1
    obtain ⟨rfl, rfl, rfl⟩ := h1
    have hc : ∀ j x, (cls (sv (ss.getD i zr).name (ss.getD i zr).op (.slice aa (ss.getD i zr).args.length ca) (.slice sa (ss.getD i zr).dims.length cz) (ss.getD i zr).k (ss.getD i zr).n (.slice da (ss.getD i zr).data.length ct)))[j]? = some x → j < 7 → w.cell? ⟨g, 0 + i * 7 + j, none⟩ = some x := fun j x hx hj => by
      rw [Nat.zero_add, h.cellAt (i * 7 + j) (by omega)]
      exact (hf j hj).trans hx
    exact ⟨g, 0, aa, ca, sa, cz, da, ct, rfl, r1, r2, r3, hc 0 _ rfl (by omega), hc 1 _ rfl (by omega), hc 2 _ rfl (by omega), hc 3 _ rfl (by omega), hc 4 _ rfl (by omega), hc 5 _ rfl (by omega), hc 6 _ rfl (by omega)⟩
end Go.Proofs.YtadgnafafdfioaaGreatDoor.Gr
