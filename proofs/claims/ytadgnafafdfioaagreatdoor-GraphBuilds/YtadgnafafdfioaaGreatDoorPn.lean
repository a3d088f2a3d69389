/-
  WHAT THE LAWS OF LAYER 9 ASK OF WORDS AND LINES: statements told back as words, numbers as words, texts behind one another. Nothing of the program's text is named here. No conditions.
-/
import Derived.Test.YtadgnafafdfioaaGreatDoorPm
namespace Go.Proofs.YtadgnafafdfioaaGreatDoor.Rd
set_option linter.unusedVariables false

theorem knd_of {x : ByteArray} {l : List UInt8} (h : isw x l = true) : knd x = knd ⟨l.toArray⟩ ∧ ari x = ari ⟨l.toArray⟩ := by rw [isw_eq h]; exact ⟨rfl, rfl⟩

/-- lines as statements -/
def bas (ws : List (List UInt8)) : List ByteArray := ws.map str
def alls : List (Nat × List (List UInt8)) → Option (List Sm)
  | [] => some []
  | x :: l => match par (bas x.2), alls l with
    | some s, some t => some (s :: t)
    | _, _ => none
/-- the number of the first line that is none -/
def bad : List (Nat × List (List UInt8)) → Nat
  | [] => 0
  | x :: l => match par (bas x.2) with
    | some _ => bad l
    | none => x.1
theorem alls_cons (x : Nat × List (List UInt8)) (l : List (Nat × List (List UInt8))) : alls (x :: l) = match par (bas x.2), alls l with
    | some s, some t => some (s :: t)
    | _, _ => none := rfl
theorem bad_cons (x : Nat × List (List UInt8)) (l : List (Nat × List (List UInt8))) : bad (x :: l) = match par (bas x.2) with
    | some _ => bad l
    | none => x.1 := rfl
theorem alls_app {a b : List (Nat × List (List UInt8))} {x : List Sm} (h : alls a = some x) : alls (a ++ b) = (alls b).map (x ++ ·) ∧ (alls b = none → bad (a ++ b) = bad b) := by
  induction a generalizing x with
  | nil =>
    simp [alls] at h; subst h
    refine ⟨?_, fun _ => rfl⟩
    rw [List.nil_append]
    cases hb : alls b <;> simp
  | cons y a ih =>
    rw [alls_cons] at h
    cases h1 : par (bas y.2) with
    | none => simp [h1] at h
    | some s => cases h2 : alls a with
      | none => simp [h1, h2] at h
      | some t =>
        simp [h1, h2] at h; subst h
        obtain ⟨i1, i2⟩ := ih h2
        refine ⟨?_, fun hb => ?_⟩
        · rw [List.cons_append, alls_cons, h1, i1]
          cases alls b <;> simp
        · rw [List.cons_append, bad_cons, h1]
          exact i2 hb
theorem alls_far (k : Nat) (l : List (Nat × List (List UInt8))) : alls (l.map (Lx.far k)) = alls l := by
  induction l with
  | nil => rfl
  | cons x l ih => rw [List.map_cons, alls_cons, alls_cons, ih]; rfl
theorem alls_len : ∀ {l : List (Nat × List (List UInt8))} {x : List Sm}, alls l = some x → x.length = l.length
  | [], x, h => by simp [alls] at h; subst h; rfl
  | y :: l, x, h => by
    rw [alls_cons] at h
    cases h1 : par (bas y.2) with
    | none => simp [h1] at h
    | some s => cases h2 : alls l with
      | none => simp [h1, h2] at h
      | some t => simp [h1, h2] at h; subst h; simp [alls_len h2]
theorem alls_at : ∀ {l : List (Nat × List (List UInt8))} {x : List Sm}, alls l = some x → ∀ {i : Nat} {y : Nat × List (List UInt8)}, l[i]? = some y → ∃ s, par (bas y.2) = some s ∧ x[i]? = some s
  | [], x, h, i, y, hi => by simp at hi
  | z :: l, x, h, i, y, hi => by
    rw [alls_cons] at h
    cases h1 : par (bas z.2) with
    | none => simp [h1] at h
    | some s => cases h2 : alls l with
      | none => simp [h1, h2] at h
      | some t =>
        simp [h1, h2] at h; subst h
        cases i with
        | zero => simp at hi; subst hi; exact ⟨s, h1, rfl⟩
        | succ i =>
          obtain ⟨q, q1, q2⟩ := alls_at h2 (i := i) (by simpa using hi)
          exact ⟨q, q1, by simpa using q2⟩
/-- so far all are: one more, or the first that is none -/
theorem alls_next {l : List (Nat × List (List UInt8))} {k : Nat} {x : List Sm} {y : Nat × List (List UInt8)} {s : Sm} (h : alls (l.take k) = some x) (hy : l[k]? = some y) (hs : par (bas y.2) = some s) : alls (l.take (k + 1)) = some (x ++ [s]) := by
  have e : l.take (k + 1) = l.take k ++ [y] := by rw [List.take_add_one, hy]; rfl
  have e2 : alls [y] = some [s] := by rw [alls_cons, hs]; rfl
  rw [e, (alls_app h).1, e2]; rfl
theorem alls_stop {l : List (Nat × List (List UInt8))} {k : Nat} {x : List Sm} {y : Nat × List (List UInt8)} (h : alls (l.take k) = some x) (hy : l[k]? = some y) (hs : par (bas y.2) = none) : alls l = none ∧ bad l = y.1 := by
  have hk : k < l.length := (List.getElem?_eq_some_iff.1 hy).1
  have e : l = l.take k ++ y :: l.drop (k + 1) := by
    have e1 : l.drop k = y :: l.drop (k + 1) := by
      rw [List.drop_eq_getElem_cons hk, (List.getElem?_eq_some_iff.1 hy).2]
    rw [← e1, List.take_append_drop]
  have e2 : alls (y :: l.drop (k + 1)) = none := by rw [alls_cons, hs]
  obtain ⟨i1, i2⟩ := alls_app (b := y :: l.drop (k + 1)) h
  have e3 : bad (y :: l.drop (k + 1)) = y.1 := by rw [bad_cons, hs]
  rw [e2] at i1
  rw [← e] at i1 i2
  exact ⟨i1, by rw [i2 e2, e3]⟩

/-- numbers as words -/
def dig (k : Nat) : ByteArray := if k > 9 then ⟨#[UInt8.ofNat (48 + k / 10), UInt8.ofNat (48 + k % 10)]⟩ else ⟨#[UInt8.ofNat (48 + k)]⟩
theorem num_dig : ∀ k, k < 100 → num (dig k).data.toList = some k := by decide +kernel
theorem nus_cons (x : ByteArray) (l : List ByteArray) : nus (x :: l) = match num x.data.toList, nus l with
    | some n, some zs => some ((n : Int) :: zs)
    | _, _ => none := rfl
theorem nus_digs (l : List Nat) (h : ∀ k ∈ l, k < 100) : nus (l.map dig) = some (List.map (fun k : Nat => (k : Int)) l) := by
  induction l with
  | nil => rfl
  | cons k l ih =>
    rw [List.map_cons, nus_cons, num_dig k (h k (by simp)), ih fun j hj => h j (by simp [hj])]
    rfl
theorem num_small : ∀ n, n ≤ 6 → num [UInt8.ofNat (48 + n)] = some n := by
  intro n h
  have := num_dig n (by omega)
  unfold dig at this
  rw [if_neg (by omega)] at this
  exact this
theorem num_back {x : List UInt8} {n : Nat} (h : num x = some n) (h6 : n ≤ 6) : x = [UInt8.ofNat (48 + n)] := by
  unfold num at h
  split at h
  · rename_i a
    split at h
    · rename_i hd
      unfold Lx.dgt at hd
      simp at hd h
      have : 48 + n = a.toNat := by omega
      rw [this]; simp
    · cases h
  · rename_i a b
    split at h
    · rename_i hd
      unfold Lx.dgt at hd
      simp at hd h
      obtain ⟨h1, h2, h3⟩ := hd
      have : a.toNat = 48 := by omega
      exact absurd (UInt8.toNat_inj.1 (by simpa using this)) h1
    · cases h
  · cases h

/-- texts behind one another, each with its line's end -/
def Sq (t : List UInt8) (n : Nat) (L : List (Nat × List (List UInt8))) : Prop := ∀ u, Lx.lns (t ++ u) = L ++ Lx.tl (1 + n) [] [] false u
theorem Sq.nil : Sq [] 0 [] := fun u => rfl
theorem Sq.snoc {t x : List UInt8} {n : Nat} {L : List (Nat × List (List UInt8))} (h : Sq t n L) (hx : ∀ b ∈ x, b ≠ 10) : Sq (t ++ x ++ [10]) (n + 1) (L ++ (Lx.lns x).map (Lx.far n)) := by
  intro u
  have e : t ++ x ++ [10] ++ u = t ++ (x ++ 10 :: u) := by simp
  rw [e, h, Lx.lns_line _ _ hx, ← List.append_assoc, ← Nat.add_assoc]
  congr 2
  show Lx.tl (1 + n) _ _ _ _ = _
  rw [Lx.tl_far]; rfl
theorem Sq.all {t : List UInt8} {n : Nat} {L : List (Nat × List (List UInt8))} (h : Sq t n L) : Lx.lns t = L := by
  have := h []
  simpa [Lx.tl, Lx.fl_nil, Lx.ln1_nil] using this
abbrev lNothing : List UInt8 := [110, 111, 116, 104, 105, 110, 103]
theorem nothing_tl (n : Nat) : Lx.tl n [] [] false lNothing = [(n, [lNothing])] := by
  have hp : Lx.plain lNothing := by unfold Lx.plain; decide
  have := Lx.tl_plain lNothing [] n [] [] hp
  simp only [List.append_nil, List.nil_append] at this
  rw [this, Lx.tl, Lx.fl_ne (by decide), List.nil_append, Lx.ln1_ne (by simp)]
theorem Sq.more {t : List UInt8} {n : Nat} {L : List (Nat × List (List UInt8))} {S : List Sm} (h : Sq t n L) (hS : alls L = some S) : alls (Lx.lns (t ++ lNothing)) = none ∧ bad (Lx.lns (t ++ lNothing)) = n + 1 := by
  rw [h, nothing_tl]
  have e : alls [(1 + n, [lNothing])] = none := rfl
  obtain ⟨i1, i2⟩ := alls_app (b := [(1 + n, [lNothing])]) hS
  rw [e] at i1
  refine ⟨i1, ?_⟩
  rw [i2 e]
  show 1 + n = n + 1
  omega

/-- a statement's words, put together anew -/
theorem fin_name {name op : ByteArray} {args rest : List ByteArray} {s : Sm} (h : fin name op args rest = some s) : s.name = name ∧ s.op = op ∧ s.args = args := by
  unfold fin at h
  split at h
  · cases hd : dms rest with
    | none => simp [hd] at h
    | some d => simp [hd] at h; subst h; exact ⟨rfl, rfl, rfl⟩
  · split at h
    · split at h
      · split at h
        · cases h; exact ⟨rfl, rfl, rfl⟩
        · cases h
      · cases h
    · split at h
      · split at h
        · split at h
          · split at h
            · cases h; exact ⟨rfl, rfl, rfl⟩
            · cases h
          · cases h
        · cases h
      · split at h
        · cases h; exact ⟨rfl, rfl, rfl⟩
        · cases h
theorem opn_some {name : ByteArray} {l : List ByteArray} {s : Sm} (h : opn name l = some s) : ∃ parts, l = s.op :: parts ∧ s.name = name ∧ ari s.op ≠ 0 ∧ ari s.op ≤ parts.length ∧ s.args = parts.take (ari s.op) ∧ fin name s.op s.args (parts.drop (ari s.op)) = some s := by
  cases l with
  | nil => cases h
  | cons op parts =>
    rw [opn_cons] at h
    split at h
    · rename_i hc
      obtain ⟨e1, e2, e3⟩ := fin_name h
      subst e2
      rw [← e3] at h
      exact ⟨parts, rfl, e1, hc.2.1, hc.2.2.1, e3, h⟩
    · cases h
/-- of what line it is -/
theorem par_some {ws : List ByteArray} {s : Sm} (h : par ws = some s) :
    (∃ a r, ws = a :: str lEq :: r ∧ opn a r = some s) ∨ (isw s.op lLoss = true ∧ ∃ b, ws = [s.op, b] ∧ s.args = [b]) ∨ s.args = [] := by
  match ws, h with
  | [], h => cases h
  | [a], h => cases h
  | a :: b :: r, h =>
    rw [par_two] at h
    split at h
    · rename_i hb
      exact Or.inl ⟨a, r, by rw [isw_eq hb]; rfl, h⟩
    · split at h
      · unfold giv at h
        split at h
        · split at h
          · cases h; exact Or.inr (Or.inr rfl)
          · cases h
        · cases h
      · split at h
        · unfold con at h
          split at h
          · split at h
            · split at h
              · split at h
                · cases h; exact Or.inr (Or.inr rfl)
                · cases h
              · cases h
            · cases h
          · cases h
        · split at h
          · rename_i hl
            split at h
            · rename_i hc
              cases h
              refine Or.inr (Or.inl ⟨hl, b, ?_, rfl⟩)
              rw [hc.2]
            · cases h
          · cases h
theorem loss_no {l : List ByteArray} {a : ByteArray} {s : Sm} (h : opn a l = some s) : isw s.op lLoss = false := by
  obtain ⟨p, _, _, h1, _⟩ := opn_some h
  cases hc : isw s.op lLoss with
  | false => rfl
  | true => exact absurd (by rw [isw_eq hc]; decide) h1
theorem take_one {l : List ByteArray} (h : 1 ≤ l.length) : ∃ x r, l = x :: r := by
  cases l with
  | nil => simp at h
  | cons x r => exact ⟨x, r, rfl⟩
/-- scale -/
theorem back_scale {ws : List ByteArray} {s : Sm} (h : par ws = some s) (ho : isw s.op lScale = true) : s.args = [] ∨ ∃ a, s.args = [a] ∧ ws = [s.name, str lEq, s.op, a, s.k] := by
  rcases par_some h with ⟨a, r, rfl, hq⟩ | ⟨hl, _⟩ | h0
  · right
    obtain ⟨parts, rfl, rfl, _, h2, h3, h4⟩ := opn_some hq
    rw [show ari s.op = 1 by rw [isw_eq ho]; decide] at h2 h3 h4
    obtain ⟨x, p, rfl⟩ := take_one h2
    simp at h3 h4
    refine ⟨x, h3, ?_⟩
    unfold fin at h4
    rw [show knd s.op = 1 by rw [isw_eq ho]; decide] at h4
    rw [if_neg (by decide), if_pos rfl] at h4
    split at h4
    · rename_i y
      split at h4
      · have := congrArg (fun o : Option Sm => o.map Sm.k) h4
        simp at this
        rw [← this]
      · cases h4
    · cases h4
  · rw [isw_eq ho] at hl; exact absurd hl (by decide)
  · exact Or.inl h0
/-- power -/
theorem back_power {ws : List ByteArray} {s : Sm} (h : par ws = some s) (ho : isw s.op lPower = true) : s.args = [] ∨ (s.n ≤ 6 ∧ ∃ a, s.args = [a] ∧ ws = [s.name, str lEq, s.op, a, str [UInt8.ofNat (48 + s.n)]]) := by
  rcases par_some h with ⟨a, r, rfl, hq⟩ | ⟨hl, _⟩ | h0
  · right
    obtain ⟨parts, rfl, rfl, _, h2, h3, h4⟩ := opn_some hq
    rw [show ari s.op = 1 by rw [isw_eq ho]; decide] at h2 h3 h4
    obtain ⟨x, p, rfl⟩ := take_one h2
    simp at h3 h4
    unfold fin at h4
    rw [show knd s.op = 2 by rw [isw_eq ho]; decide] at h4
    rw [if_neg (by decide), if_neg (by decide), if_pos rfl] at h4
    split at h4
    · rename_i y
      split at h4
      · rename_i n hn
        split at h4
        · rename_i h6
          have := congrArg (fun o : Option Sm => o.map Sm.n) h4
          simp at this
          rw [← this]
          refine ⟨h6, x, h3, ?_⟩
          have e := num_back hn h6
          have : y = str [UInt8.ofNat (48 + n)] := by unfold str; rw [← e]
          rw [this]
        · cases h4
      · cases h4
    · cases h4
  · rw [isw_eq ho] at hl; exact absurd hl (by decide)
  · exact Or.inl h0
/-- those with nothing behind their names -/
theorem back_plain {ws : List ByteArray} {s : Sm} (h : par ws = some s) (ho : knd s.op = 0) (hl : isw s.op lLoss = false) : s.args = [] ∨ ws = s.name :: str lEq :: s.op :: s.args := by
  rcases par_some h with ⟨a, r, rfl, hq⟩ | ⟨hl', _⟩ | h0
  · right
    obtain ⟨parts, rfl, rfl, _, h2, h3, h4⟩ := opn_some hq
    unfold fin at h4
    rw [ho, if_neg (by decide), if_neg (by decide), if_neg (by decide)] at h4
    split at h4
    · rename_i hr
      have : parts = s.args := by rw [h3]; have := List.take_append_drop (ari s.op) parts; rw [hr] at this; simpa using this.symm
      rw [← this]
    · cases h4
  · rw [hl] at hl'; cases hl'
  · exact Or.inl h0
theorem back_loss {ws : List ByteArray} {s : Sm} (h : par ws = some s) (ho : isw s.op lLoss = true) : s.args = [] ∨ ws = s.op :: s.args := by
  rcases par_some h with ⟨a, r, rfl, hq⟩ | ⟨_, b, h1, h2⟩ | h0
  · rw [loss_no hq] at ho; cases ho
  · right; rw [h1, h2]
  · exact Or.inl h0
end Go.Proofs.YtadgnafafdfioaaGreatDoor.Rd
