/-
  STATEMENTS IN MEMORY: a slice of one's own. Conditions: each theorem's own.
-/
import Derived.Test.YtadgnafafdfioaaGreatDoorRD
import Derived.Test.YtadgnafafdfioaaGreatDoorRE
namespace Go.Proofs.YtadgnafafdfioaaGreatDoor.Rd
set_option maxRecDepth 100000
open Go.RowKit
set_option linter.unusedVariables false
set_option linter.unusedSimpArgs false

theorem inf26 : (Tryz.prog.info? 41).map (fun i => (i.zero, i.size, i.bytes)) = some (some zv, 7, 128) := by kernel_rfl
theorem So.grown {w w' : World} {B b2 n2 : Nat} {v v2 : Value} {s : Sm} {x2 : List Value} (h : So w B v s) (h2 : w.ownsRow b2 41 7 v2 n2 x2) (hg : w.grownBy w' v2.ownBlock) : So w' B v s := by
  obtain ⟨ua, ud, ut, e, p1, p2, p3⟩ := h
  exact ⟨ua, ud, ut, e, Lx.own_grown p1 h2 (by decide) hg, Lx.own_grown p2 h2 (by decide) hg, Lx.own_grown p3.1 h2 (by decide) hg, p3.2⟩
/-- a statement's cells -/
def cls : Value → List Value
  | .agg a => a.toList
  | _ => []
theorem cls_len {w : World} {B : Nat} {v : Value} {s : Sm} (h : So w B v s) : (cls v).length = 7 := by
  obtain ⟨ua, ud, ut, rfl, _⟩ := h
  rfl
def flat (us : List Value) : List Value := us.flatMap cls
theorem flat_app (a b : List Value) : flat (a ++ b) = flat a ++ flat b := by simp [flat]
/-- the statements that they are -/
def Lw (w : World) : List Value → List Sm → Prop
  | [], [] => True
  | u :: us, s :: ss => So w 0 u s ∧ Lw w us ss
  | _, _ => False
theorem Lw.mono {w w' : World} (hw : ∀ u s, So w 0 u s → So w' 0 u s) : ∀ {us : List Value} {ss : List Sm}, Lw w us ss → Lw w' us ss
  | [], [], _ => True.intro
  | u :: us, s :: ss, h => ⟨hw _ _ h.1, Lw.mono hw h.2⟩
  | [], _ :: _, h => h.elim
  | _ :: _, [], h => h.elim
theorem Lw.snoc {w : World} {u : Value} {s : Sm} (hu : So w 0 u s) : ∀ {us : List Value} {ss : List Sm}, Lw w us ss → Lw w (us ++ [u]) (ss ++ [s])
  | [], [], _ => ⟨hu, True.intro⟩
  | p :: us, l :: ls, h => ⟨h.1, Lw.snoc hu h.2⟩
  | [], _ :: _, h => h.elim
  | _ :: _, [], h => h.elim
theorem flat_at {w : World} : ∀ {us : List Value} {ss : List Sm}, Lw w us ss → ∀ {i : Nat} {s : Sm}, ss[i]? = some s → ∃ u, us[i]? = some u ∧ So w 0 u s ∧ ∀ j, j < 7 → (flat us)[i * 7 + j]? = (cls u)[j]?
  | [], [], _, i, s, hi => by simp at hi
  | u :: us, t :: ss, h, 0, s, hi => by
    simp at hi; subst hi
    refine ⟨u, rfl, h.1, fun j hj => ?_⟩
    have hl := cls_len h.1
    have e : flat (u :: us) = cls u ++ flat us := by simp [flat]
    rw [e, Nat.zero_mul, Nat.zero_add, List.getElem?_append_left (by omega)]
  | u :: us, t :: ss, h, i + 1, s, hi => by
    obtain ⟨v, h1, h2, h3⟩ := flat_at h.2 (i := i) (by simpa using hi)
    refine ⟨v, by simpa using h1, h2, fun j hj => ?_⟩
    have hl := cls_len h.1
    have e : flat (u :: us) = cls u ++ flat us := by simp [flat]
    rw [e, List.getElem?_append_right (by omega), hl, show (i + 1) * 7 + j - 7 = i * 7 + j by omega]
    exact h3 j hj
  | [], _ :: _, h, _, _, _ => h.elim
  | _ :: _, [], h, _, _, _ => h.elim

/-- a slice of statements of one's own -/
structure Lo (w : World) (base : Nat) (v : Value) (us : List Value) (ss : List Sm) : Prop where
  own : w.ownsRow base 41 7 v ss.length (flat us)
  all : Lw w us ss
theorem Lo.nil (w : World) (base : Nat) : Lo w base (.slice none 0 0) [] [] := ⟨World.ownsRow_nil w base 41 7, True.intro⟩
theorem Lo.below {w w' : World} {base : Nat} {v : Value} {us : List Value} {ss : List Sm} (h : Lo w base v us ss) (hb : Below w.heap.size w w') : Lo w' base v us ss := ⟨Lx.own_below h.own hb, h.all.mono fun u s h => h.below hb⟩
theorem Lo.mono {w : World} {base base' : Nat} {v : Value} {us : List Value} {ss : List Sm} (h : Lo w base v us ss) (hb : base' ≤ base) : Lo w base' v us ss := ⟨Lx.own_mono h.own hb, h.all⟩
theorem Lo.snoc {w w' : World} {base : Nat} {v v' u : Value} {us : List Value} {ss : List Sm} {s : Sm} (h : Lo w base v us ss) (hu : So w 0 u s)
    (hown : w'.ownsRow base 41 7 v' (ss.length + 1) (flat us ++ cls u)) (hg : w.grownBy w' v.ownBlock) : Lo w' base v' (us ++ [u]) (ss ++ [s]) := by
  have k : ∀ u s, So w 0 u s → So w' 0 u s := fun u s hu => hu.grown h.own hg
  refine ⟨?_, (h.all.mono k).snoc (k _ _ hu)⟩
  have e : flat [u] = cls u := by simp [flat]
  rw [flat_app, List.length_append, e]
  exact hown
theorem Lo.form {w : World} {base : Nat} {v : Value} {us : List Value} {ss : List Sm} (h : Lo w base v us ss) : ∃ ao cap, v = .slice ao ss.length cap := by
  rcases h.own.2 with ⟨h1, h2⟩ | ⟨g, c, cur, h1, h2, h3, h4, h5, _⟩
  · exact ⟨none, 0, by rw [h1, h2]⟩
  · exact ⟨some ⟨g, 0, none⟩, c, h1⟩
theorem Lo.get {w : World} {base : Nat} {v : Value} {us : List Value} {ss : List Sm} (h : Lo w base v us ss) {i : Nat} {s : Sm} (hi : ss[i]? = some s) :
    ∃ g cap u, v = .slice (some ⟨g, 0, none⟩) ss.length cap ∧ So w 0 u s ∧ (∀ j, j < 7 → w.cell? ⟨g, i * 7 + j, none⟩ = (cls u)[j]?) ∧ g < w.heap.size := by
  obtain ⟨u, _, hu, hf⟩ := flat_at h.all hi
  have hil : i < ss.length := (List.getElem?_eq_some_iff.1 hi).1
  rcases h.own.2 with ⟨h1, h2⟩ | ⟨g, c, cur, rfl, h2, h3, h4, h5, _⟩
  · omega
  · refine ⟨g, c, u, rfl, hu, fun j hj => ?_, (Array.getElem?_eq_some_iff.1 h3).1⟩
    rw [h.own.cellAt (i * 7 + j) (by omega)]
    exact hf j hj
theorem Lx_kept {w w' : World} {b1 b2 n2 : Nat} {v v2 : Value} {us : List (Nat × Value)} {ls : List (Nat × List (List UInt8))} {x2 : List Value} (h : Lx.Ls w b1 65 v us ls) (h2 : w.ownsRow b2 41 7 v2 n2 x2) (hg : w.grownBy w' v2.ownBlock) : Lx.Ls w' b1 65 v us ls :=
  ⟨Lx.own_grown h.own h2 (by decide) hg, h.all.mono fun u ws hu => Lx.own_grown hu h2 (by decide) hg⟩

theorem wv_txts (ws : List (List UInt8)) : Lx.wv ws = txts (bas ws) := by
  unfold Lx.wv txts bas
  rw [List.map_map]
  rfl
theorem bas_len (ws : List (List UInt8)) : (bas ws).length = ws.length := by simp [bas]
theorem ow_full {w : World} {u : Value} {ws : List (List UInt8)} (h : Lx.Ow w u ws) : ∃ ao cap, u = .slice ao (bas ws).length cap ∧ Row w ao (txts (bas ws)) ∧ (bas ws).length ≤ cap ∧ cap ≤ maxLen := by
  have h' : w.ownsRow 0 9 1 u ws.length (txts (bas ws)) := by rw [← wv_txts]; exact h
  rw [bas_len]
  obtain ⟨ao, cap, rfl, hR, hN, hc, _⟩ := Row.of_own h'
  refine ⟨ao, cap, rfl, hR, hc, ?_⟩
  rcases h'.2 with ⟨h1, h2⟩ | ⟨g, c, cur, h1, h2, h3, h4, h5, _⟩
  · simp only [Value.slice.injEq] at h1
    rw [h1.2.2]; unfold maxLen; omega
  · simp only [Value.slice.injEq] at h1
    rw [h1.2.2]; exact h5

theorem fl_mem {w x : List UInt8} (h : x ∈ Lx.fl w) : x = w := by
  unfold Lx.fl at h
  split at h
  · simp at h
  · simpa using h
theorem tl_size : ∀ (s : List UInt8) (n : Nat) (W : List (List UInt8)) (w : List UInt8) (off : Bool), ∀ x ∈ Lx.tl n W w off s, ∀ y ∈ x.2, y ∈ W ∨ y.length ≤ w.length + s.length
  | [], n, W, w, off, x, h, y, hy => by
    rw [Lx.tl] at h
    unfold Lx.ln1 at h
    split at h
    · simp at h
    · simp at h; subst h
      rcases List.mem_append.1 hy with h | h
      · exact Or.inl h
      · right; rw [fl_mem h]; simp
  | b :: s, n, W, w, off, x, h, y, hy => by
    have step : ∀ y, y ∈ W ++ Lx.fl w → y ∈ W ∨ y.length ≤ w.length + (b :: s).length := by
      intro y hy
      rcases List.mem_append.1 hy with h | h
      · exact Or.inl h
      · right; rw [fl_mem h]; simp only [List.length_cons]; omega
    rw [Lx.tl] at h
    split at h
    · rcases List.mem_append.1 h with h | h
      · unfold Lx.ln1 at h
        split at h
        · simp at h
        · simp at h; subst h
          exact step y hy
      · rcases tl_size s (n + 1) [] [] false x h y hy with h | h
        · simp at h
        · right; simp only [List.length_nil, List.length_cons] at *; omega
    · split at h
      · rcases tl_size s n (W ++ Lx.fl w) [] (off || b == 35) x h y hy with h | h
        · exact step y h
        · right; simp only [List.length_nil, List.length_cons] at *; omega
      · rcases tl_size s n W (w ++ [b]) off x h y hy with h | h
        · exact Or.inl h
        · right; simp only [List.length_append, List.length_cons, List.length_nil] at *; omega
theorem lns_size (s : ByteArray) : ∀ x ∈ Lx.lns s.data.toList, ∀ y ∈ bas x.2, y.size ≤ s.size := by
  intro x hx y hy
  obtain ⟨z, hz, rfl⟩ := List.mem_map.1 hy
  have h1 : s.data.toList.length = s.size := rfl
  have h2 : (str z).size = z.length := rfl
  rcases tl_size s.data.toList 1 [] [] false x hx z hz with h | h
  · simp at h
  · simp only [List.length_nil] at h; omega
theorem tl_words : ∀ (s : List UInt8) (n : Nat) (W : List (List UInt8)) (w : List UInt8) (off : Bool), ∀ x ∈ Lx.tl n W w off s, x.2.length ≤ W.length + 1 + s.length
  | [], n, W, w, off, x, h => by
    rw [Lx.tl] at h
    unfold Lx.ln1 at h
    split at h
    · simp at h
    · simp at h; subst h
      have : (Lx.fl w).length ≤ 1 := by unfold Lx.fl; split <;> simp
      simp only [List.length_append, List.length_nil]; omega
  | b :: s, n, W, w, off, x, h => by
    have h1 : (Lx.fl w).length ≤ 1 := by unfold Lx.fl; split <;> simp
    rw [Lx.tl] at h
    split at h
    · rcases List.mem_append.1 h with h | h
      · unfold Lx.ln1 at h
        split at h
        · simp at h
        · simp at h; subst h
          simp only [List.length_append, List.length_cons]; omega
      · have := tl_words s (n + 1) [] [] false x h
        simp only [List.length_nil, List.length_cons] at *; omega
    · split at h
      · have := tl_words s n (W ++ Lx.fl w) [] (off || b == 35) x h
        simp only [List.length_append, List.length_cons] at *; omega
      · have := tl_words s n W (w ++ [b]) off x h
        simp only [List.length_cons]; omega
theorem lns_len (s : ByteArray) : (Lx.lns s.data.toList).length ≤ s.size + 1 := Lx.tl_len _ _ _ _ _
theorem lns_words (s : ByteArray) : ∀ x ∈ Lx.lns s.data.toList, (bas x.2).length ≤ 1 + s.size := fun x hx => by
  have := tl_words s.data.toList 1 [] [] false x hx
  have h1 : s.data.toList.length = s.size := rfl
  rw [bas_len]
  simp only [List.length_nil] at this
  omega
theorem Row.seven {w : World} {b : Nat} {v0 v1 v2 v3 v4 v5 v6 : Value} (h0 : w.cell? ⟨b, 0, none⟩ = some v0) (h1 : w.cell? ⟨b, 1, none⟩ = some v1) (h2 : w.cell? ⟨b, 2, none⟩ = some v2) (h3 : w.cell? ⟨b, 3, none⟩ = some v3) (h4 : w.cell? ⟨b, 4, none⟩ = some v4) (h5 : w.cell? ⟨b, 5, none⟩ = some v5) (h6 : w.cell? ⟨b, 6, none⟩ = some v6) : Row w (some ⟨b, 0, none⟩) [v0, v1, v2, v3, v4, v5, v6] := by
  intro i x hi
  match i, hi with
  | 0, hi => simp at hi; subst hi; exact ⟨b, 0, rfl, h0⟩
  | 1, hi => simp at hi; subst hi; exact ⟨b, 0, rfl, h1⟩
  | 2, hi => simp at hi; subst hi; exact ⟨b, 0, rfl, h2⟩
  | 3, hi => simp at hi; subst hi; exact ⟨b, 0, rfl, h3⟩
  | 4, hi => simp at hi; subst hi; exact ⟨b, 0, rfl, h4⟩
  | 5, hi => simp at hi; subst hi; exact ⟨b, 0, rfl, h5⟩
  | 6, hi => simp at hi; subst hi; exact ⟨b, 0, rfl, h6⟩
  | i + 7, hi => simp at hi
end Go.Proofs.YtadgnafafdfioaaGreatDoor.Rd
/-
  A TEXT's STATEMENTS: All; no row of one is another's (Pw). Conditions: each theorem's own.
-/
namespace Go.Proofs.YtadgnafafdfioaaGreatDoor.Rd
set_option maxRecDepth 100000
open Go.RowKit
set_option linter.unusedVariables false
set_option linter.unusedSimpArgs false

theorem getE {α : Type} (l : List α) (k : Nat) (h : k < l.length) : ∃ x, l[k]? = some x := ⟨l[k], List.getElem?_eq_getElem h⟩
theorem take_all {α : Type} {l : List α} {k : Nat} (h : l.length = k) : l.take k = l := List.take_of_length_le (by omega)

/-- a row that a statement's value holds -/
def Ub (v : Value) (g : Nat) : Prop := ∃ x, ((cls v)[2]? = some x ∨ (cls v)[6]? = some x) ∧ x.ownBlock = some g
theorem So.ub {w : World} {B g : Nat} {v : Value} {s : Sm} (h : So w B v s) (hg : Ub v g) : B ≤ g ∧ g < w.heap.size := by
  obtain ⟨ua, ud, ut, rfl, h1, h2, h3⟩ := h
  obtain ⟨x, hx, hb⟩ := hg
  rcases hx with hx | hx
  · have : x = ua := by simpa [cls, sv] using hx.symm
    subst this
    exact h1.lt g hb
  · have : x = ut := by simpa [cls, sv] using hx.symm
    subst this
    exact h3.1.lt g hb
/-- all rows lie behind B; no row of one is another's -/
def Pw (w : World) (B : Nat) (us : List Value) (ss : List Sm) : Prop := (∀ (i : Nat) u s, us[i]? = some u → ss[i]? = some s → So w B u s) ∧ ∀ (i j : Nat) u v s g, i < j → us[i]? = some u → us[j]? = some v → ss[j]? = some s → Ub u g → So w (g + 1) v s
theorem Pw.mono {w w' : World} {B : Nat} {us : List Value} {ss : List Sm} (h : Pw w B us ss) (hw : ∀ B u s, So w B u s → So w' B u s) : Pw w' B us ss := ⟨fun i u s h1 h2 => hw _ _ _ (h.1 i u s h1 h2), fun i j u v s g h1 h2 h3 h4 h5 => hw _ _ _ (h.2 i j u v s g h1 h2 h3 h4 h5)⟩
theorem Lw.len {w : World} : ∀ {us : List Value} {ss : List Sm}, Lw w us ss → us.length = ss.length
  | [], [], _ => rfl
  | u :: us, s :: ss, h => by simp [Lw.len h.2]
  | [], _ :: _, h => h.elim
  | _ :: _, [], h => h.elim
theorem Lw.get {w : World} : ∀ {us : List Value} {ss : List Sm}, Lw w us ss → ∀ {i : Nat} {u : Value}, us[i]? = some u → ∃ s, ss[i]? = some s ∧ So w 0 u s
  | [], [], _, i, u, h => by simp at h
  | v :: us, s :: ss, h, 0, u, hi => by simp at hi; subst hi; exact ⟨s, rfl, h.1⟩
  | v :: us, s :: ss, h, i + 1, u, hi => by
    obtain ⟨t, h1, h2⟩ := Lw.get h.2 (i := i) (u := u) (by simpa using hi)
    exact ⟨t, by simpa using h1, h2⟩
  | [], _ :: _, h, _, _, _ => h.elim
  | _ :: _, [], h, _, _, _ => h.elim
theorem Pw.snoc {w w' : World} {B : Nat} {us : List Value} {ss : List Sm} {u : Value} {s : Sm} (h : Pw w' B us ss) (hl : Lw w us ss) (hu : So w' w.heap.size u s) (hB : B ≤ w.heap.size) : Pw w' B (us ++ [u]) (ss ++ [s]) := by
  have e := hl.len
  refine ⟨fun i u1 s1 h1 h2 => ?_, fun i j u1 v1 s1 g hij h1 h2 h3 hg => ?_⟩
  · by_cases hi : i < us.length
    · rw [List.getElem?_append_left hi] at h1
      rw [List.getElem?_append_left (by omega)] at h2
      exact h.1 i u1 s1 h1 h2
    · have hil : i < us.length + 1 := by have := (List.getElem?_eq_some_iff.1 h1).1; simpa using this
      have : i = us.length := by omega
      subst this
      rw [List.getElem?_append_right (by omega)] at h1 h2
      simp at h1
      rw [e, Nat.sub_self] at h2
      simp at h2
      subst h1 h2
      exact hu.mono hB
  · by_cases hj : j < us.length
    · rw [List.getElem?_append_left (by omega)] at h1
      rw [List.getElem?_append_left hj] at h2
      rw [List.getElem?_append_left (by omega)] at h3
      exact h.2 i j u1 v1 s1 g hij h1 h2 h3 hg
    · have hjl : j < us.length + 1 := by have := (List.getElem?_eq_some_iff.1 h2).1; simpa using this
      have : j = us.length := by omega
      subst this
      rw [List.getElem?_append_left (by omega)] at h1
      rw [List.getElem?_append_right (by omega)] at h2 h3
      simp at h2
      rw [e, Nat.sub_self] at h3
      simp at h3
      subst h2 h3
      obtain ⟨t, _, ht⟩ := hl.get h1
      exact hu.mono (So.ub ht hg).2
/-- what All tells of lines -/
def Ap (w' : World) (B : Nat) (L : List (Nat × List (List UInt8))) (e : Ending) : Prop :=
  match alls L with
  | some ss => ∃ v us, e = .returned (.tuple #[v, .int .i64 0, .int .i64 0]) ∧ Lo w' B v us ss ∧ Pw w' B us ss
  | none => e = .returned (.tuple #[.slice none 0 0, .int .i64 (bad L : Nat), .int .i64 2])
theorem Ap.yes {w' : World} {B : Nat} {L : List (Nat × List (List UInt8))} {e : Ending} {ss : List Sm} (h : alls L = some ss) (h' : ∃ v us, e = .returned (.tuple #[v, .int .i64 0, .int .i64 0]) ∧ Lo w' B v us ss ∧ Pw w' B us ss) : Ap w' B L e := by
  unfold Ap; rw [h]; exact h'
theorem Ap.no {w' : World} {B : Nat} {L : List (Nat × List (List UInt8))} {n : Nat} (h : alls L = none) (hb : bad L = n) : Ap w' B L (.returned (.tuple #[.slice none 0 0, .int .i64 (n : Int), .int .i64 2])) := by
  unfold Ap; rw [h, hb]
set_option maxHeartbeats 4000000 in
theorem All2_any (s : ByteArray) (aF aZ : Addr) (w : World) (hE : Er w aF aZ) (hs : s.size ≤ 100000) : Calls Tryz.prog 13 #[.string s] w fun e w' => Ap w' w.heap.size (Lx.lns s.data.toList) e ∧ Below w.heap.size w w' := by
  have hLA := fun w => Lx.lines_any s w hs
  have hll := lns_len s
  have hlw := lns_words s
  have hls := lns_size s
  generalize Lx.lns s.data.toList = L at hLA hll hlw hls ⊢
  have HW : Hid _ := hlw
  have HS : Hid _ := hls
  have HE : Hid _ := hE
  clear hlw hls hE
  obtain ⟨i0, hi, hz0, hz1, hz2⟩ := info_parts inf26
  go_enter Tryz.func13, Tryz.ntmps13
  go_wp2_with fail
  refine (hLA _).mono ?_
  rintro e w1 ⟨v, us, rfl, hL, hB1⟩
  clear hLA
  obtain ⟨ao, cap, rfl, _, _⟩ := hL.form
  have HL0 : Hid _ := hL
  clear hL
  obtain ⟨N, hN⟩ : ∃ N, L.length = N := ⟨_, rfl⟩
  have HN : Hid (L.length = N) := hN
  rw [hN] at hll HL0 ⊢
  clear hN
  go_wp2_with fail
  go_loopw [5, 13] (fun o i wr => ∃ (k : Nat) (us' : List Value) (ss : List Sm), k ≤ N ∧ i = .int .i64 (k : Int) ∧ alls (L.take k) = some ss ∧ ss.length = k ∧ Lo wr w.heap.size o us' ss ∧ Pw wr w.heap.size us' ss ∧ Hid (Lx.Ls wr w.heap.size 65 (.slice ao N cap) us L) ∧ Below w.heap.size w wr) (fun _ i _ => N - (intOf i).toNat)
  case atStart => exact ⟨0, [], [], Nat.zero_le _, rfl, rfl, rfl, Lo.nil _ _, ⟨fun i u s h => (by simp at h), fun i j u v s g _ h => (by simp at h)⟩, HL0, hB1⟩
  case round =>
    obtain ⟨k, us', ss, hk, rfl, hal, hsl, hO, hPw0, HL, hBw⟩ := hrel
    have HPw : Hid (Pw wr w.heap.size us' ss) := hPw0
    clear hPw0
    have HA : Hid _ := hal
    clear hal
    by_cases hkn : k < N
    · obtain ⟨⟨n, ws⟩, hx⟩ := getE L k (by rw [HN.out]; exact hkn)
      have hmem := List.mem_of_getElem? hx
      have hwl := HW.out _ hmem
      have hws := HS.out _ hmem
      simp only at hwl hws
      have HL' := HL.out
      have hget := Lx.Ls.get (w := wr) (base := w.heap.size) (e := 65) (v := .slice ao L.length cap) (us := us) (ls := L) (by rw [HN.out]; exact HL') hx
      rw [HN.out] at hget
      obtain ⟨g, cap', u, hv, hc1, hc2, how, hg⟩ := hget
      obtain ⟨rfl, rfl⟩ : ao = some ⟨g, 0, none⟩ ∧ cap = cap' := by simpa using hv
      clear hv HL' hmem
      have HX : Hid (L[k]? = some (n, ws)) := hx
      clear hx
      obtain ⟨a2, c2, rfl, hR, hcap, hcm⟩ := ow_full how
      clear how
      have HRow : Hid _ := hR
      have HWS : Hid _ := hws
      clear hR hws
      have hbig : (bas ws).length ≤ 1000000 := by omega
      obtain ⟨M, hM⟩ : ∃ M, (bas ws).length = M := ⟨_, rfl⟩
      have HP : Hid (∀ v, Below wr.heap.size wr v → Calls Tryz.prog 30 #[.agg #[.int .i64 (n : Int), .slice a2 M c2]] v fun e w' => Po w' v.heap.size (par (bas ws)) e ∧ Below v.heap.size v w') := by
        intro v hv
        rw [← hM]
        exact Parse_any n (bas ws) a2 c2 aF aZ v ((HE.out.below hBw).below hv) (Row.below HRow.out hv) hbig hcap hcm (fun y hy => by have := HWS.out y hy; omega)
      rw [hM] at hc2 hcap hwl hbig
      clear hM
      have hpn : par (bas ws) = none → alls L = none ∧ bad L = n := fun hp => alls_stop HA.out HX.out hp
      have hpy : ∀ s', par (bas ws) = some s' → alls (L.take (k + 1)) = some (ss ++ [s']) := fun s' hp => alls_next HA.out HX.out hp
      have HPN : Hid _ := hpn
      have HPY : Hid _ := hpy
      clear hpn hpy HRow HWS
      have hB0 := ((Below.refl wr.heap.size wr).alloc (Nat.le_refl _) (.cells #[.int .i64 (n : Int), .slice a2 M c2] 65))
      have HB0 : Hid _ := hB0
      clear hB0
      cases hp : par (bas ws) with
      | none =>
        obtain ⟨e1, e2⟩ := HPN.out hp
        have HP' := HP.out
        rw [hp] at HP'
        have HQ : Hid _ := HP'
        clear HP HP' HPN HPY hp
        go_wp2_with fail
        refine (HQ.out _ HB0.out).mono ?_
        rintro e w2 ⟨rfl, hB2⟩
        have hd0 : w2.cell? ⟨wr.heap.size, 0, none⟩ = some (.int .i64 (n : Int)) := (own1 hB2).1 0
        have hlt2 : wr.heap.size < w2.heap.size := by have := hB2.size; simp at this; omega
        have HB2 : Hid (Below w.heap.size w w2) := hBw.trans ((HB0.out.trans (hB2.mono (by simp))).mono hBw.size)
        clear hB2 hc1 hc2 hO hBw
        go_wp2_with fail
        go_region
        go_wp2
        go_ret3
        exact ⟨Ap.no e1 e2, ((HB2.out.alloc (by have := HB2.out.size; omega) _).drew)⟩
      | some s' =>
        have hal := HPY.out s' hp
        have HP' := HP.out
        rw [hp] at HP'
        have HQ : Hid _ := HP'
        have HA' : Hid _ := hal
        clear HP HP' HPN HPY hp hal
        go_wp2_with fail
        refine (HQ.out _ HB0.out).mono ?_
        rintro e w2 ⟨⟨u, rfl, hU⟩, hB2⟩
        obtain ⟨b1, m1, d1, b2, m2, d2, b3, m3, d3, rfl⟩ := hU.form
        have hlt2 : wr.heap.size < w2.heap.size := by have := hB2.size; simp at this; omega
        have hBr : Below wr.heap.size wr w2 := HB0.out.trans (hB2.mono (by simp))
        have HU : Hid _ := So.mono hU (Nat.zero_le _)
        have hUr : So w2 wr.heap.size _ s' := So.mono hU (by simp)
        have HP2 : Hid (Pw w2 w.heap.size (us' ++ [sv s'.name s'.op (.slice b1 m1 d1) (.slice b2 m2 d2) s'.k s'.n (.slice b3 m3 d3)]) (ss ++ [s'])) := (HPw.out.mono fun B u s h => h.below hBr).snoc hO.all hUr hBw.size
        clear hUr
        have hO2 := hO.below hBr
        have HL2 : Hid _ := HL.out.below hBr
        have hBw2 := hBw.trans (hBr.mono hBw.size)
        clear hU hO hBr hB2 hBw hc1 hc2 HL
        have hown := hO2.own
        rw [hsl] at hown
        have hsz := hBw2.size
        go_wp2_with (first | (at_builtin; refine wpList_append_own _ rfl _ _ 35 rfl w.heap.size 41 i0 _ 7 128 Tryz.underlying35 hi hz0 hz1 hz2 rfl (by decide) _ k (flat us') rfl ((hown.alloc _).alloc _) ⟨w2.heap.size + 1, 0, none⟩ 1 1 [.string s'.name, .string s'.op, .slice b1 m1 d1, .slice b2 m2 d2, .string s'.k, .int .i64 (s'.n : Int), .slice b3 m3 d3] rfl rfl ?_ ?_ ?_ ?_ ?_ ?_))
        · exact (Row.seven (by go_simp) (by go_simp) (by go_simp) (by go_simp) (by go_simp) (by go_simp) (by go_simp)).news
        · intro x hx
          simp only [List.mem_cons, List.not_mem_nil, or_false] at hx
          rcases hx with rfl | rfl | rfl | rfl | rfl | rfl | rfl <;> rfl
        · unfold maxLen; omega
        · omega
        · simp; omega
        · intro v' w3 hown3 hgrow _
          have hX : ∀ o1 o2, Below w2.heap.size w2 ((w2.alloc o1).alloc o2) := fun o1 o2 => ((Below.refl _ w2).alloc (Nat.le_refl _) o1).alloc (by simp) o2
          have hown4 : w3.ownsRow w.heap.size 41 7 v' (ss.length + 1) (flat us' ++ cls (sv s'.name s'.op (.slice b1 m1 d1) (.slice b2 m2 d2) s'.k s'.n (.slice b3 m3 d3))) := by rw [hsl]; exact hown3
          have hO3 := (hO2.below (hX _ _)).snoc (So.below HU.out (hX _ _)) hown4 hgrow
          have HL3 : Hid (Lx.Ls w3 w.heap.size 65 _ us L) := Lx_kept (Lx.Ls.below HL2.out (hX _ _)) ((hown.alloc _).alloc _) hgrow
          have hB3 : Below w.heap.size w w3 := ((hBw2.alloc hsz _).alloc (by simp; omega) _).grown hgrow (by simp; omega) (fun x hx => (hown.lt x hx).1)
          have HP3 : Hid (Pw w3 w.heap.size (us' ++ [sv s'.name s'.op (.slice b1 m1 d1) (.slice b2 m2 d2) s'.k s'.n (.slice b3 m3 d3)]) (ss ++ [s'])) := HP2.out.mono fun B u s h => So.grown (So.below h (hX _ _)) ((hown.alloc _).alloc _) hgrow
          clear hown3 hown4 hgrow hX hO2 hown HL2 hBw2
          go_wp2
          go_roundw
          case rel => exact ⟨k + 1, _, _, by omega, by go_num, HA'.out, by rw [List.length_append, hsl]; rfl, hO3, HP3.out, HL3, hB3⟩
          case measure => simp [intOf]; omega
    · obtain rfl : k = N := by omega
      have e1 : alls L = some ss := by have := HA.out; rw [take_all HN.out] at this; exact this
      have HE1 : Hid _ := e1
      have HO : Hid _ := hO
      obtain ⟨a2, c2, rfl⟩ := hO.form
      clear e1 hO
      go_wp2
      go_ret3
      exact ⟨Ap.yes HE1.out ⟨_, _, rfl, HO.out, HPw.out⟩, hBw⟩
end Go.Proofs.YtadgnafafdfioaaGreatDoor.Rd
