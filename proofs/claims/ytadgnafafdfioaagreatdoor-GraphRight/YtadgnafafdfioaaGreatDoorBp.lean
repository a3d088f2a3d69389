/-
  GRAPHS AS LISTS OF NODES: graphs built of statements; what is built is right. Nothing of the program's text is named here. No conditions.
-/
import Derived.Test.YtadgnafafdfioaaGreatDoorHq
namespace Go.Proofs.YtadgnafafdfioaaGreatDoor.Gr
open Go.Proofs.YtadgnafafdfioaaGreatDoor.Rd
set_option linter.unusedVariables false
set_option linter.unusedSimpArgs false

/-! ## graphs that are built of statements -/
/-- a statement as it is read: of one but loss as many names as its operation has parts; of loss one -/
def Pst (s : Rd.Sm) : Prop := if isw s.op lLoss = true then s.args.length = 1 else prs s.op = some s.args.length
theorem prs_ari {x : ByteArray} (h : ari x ≠ 0) : prs x = some (ari x) := by
  unfold ari at h ⊢
  split at h
  · rename_i c
    obtain ⟨a, ha, rfl⟩ := any_ls c
    rw [if_pos c]
    simp only [twos, List.mem_cons, List.not_mem_nil, or_false] at ha
    rcases ha with rfl | rfl | rfl | rfl | rfl | rfl <;> decide
  · rename_i c0
    rw [if_neg c0]
    split at h
    · rename_i c
      rw [if_pos c]
      simp only [Bool.or_eq_true] at c
      rcases c with (((c | c) | c) | c) | c
      · obtain ⟨a, ha, rfl⟩ := any_ls c
        simp only [ones, List.mem_cons, List.not_mem_nil, or_false] at ha
        rcases ha with rfl | rfl | rfl | rfl | rfl | rfl <;> decide
      · rw [isw_eq c]; decide
      · rw [isw_eq c]; decide
      · rw [isw_eq c]; decide
      · rw [isw_eq c]; decide
    · exact absurd rfl h
theorem opn_pst {a : ByteArray} {l : List ByteArray} {s : Rd.Sm} (h : opn a l = some s) : Pst s := by
  unfold Pst
  rw [loss_no h]
  obtain ⟨p, _, _, h1, h2, h3, _⟩ := opn_some h
  rw [if_neg (by decide), prs_ari h1, h3, List.length_take, Nat.min_eq_left h2]
theorem giv_some {a b : ByteArray} {r : List ByteArray} {s : Rd.Sm} (h : giv a b r = some s) : s.op = a ∧ s.args = [] ∧ s.name = b := by
  unfold giv at h
  split at h
  · split at h
    · cases h; exact ⟨rfl, rfl, rfl⟩
    · cases h
  · cases h
theorem con_some {a b : ByteArray} {r : List ByteArray} {s : Rd.Sm} (h : con a b r = some s) : s.op = a ∧ s.args = [] ∧ s.name = b := by
  unfold con at h
  split at h
  · split at h
    · split at h
      · split at h
        · cases h; exact ⟨rfl, rfl, rfl⟩
        · cases h
      · cases h
    · cases h
  · cases h
theorem par_pst {ws : List ByteArray} {s : Rd.Sm} (h : par ws = some s) : Pst s := by
  match ws, h with
  | [], h => cases h
  | [a], h => cases h
  | a :: b :: r, h =>
    rw [par_two] at h
    split at h
    · exact opn_pst h
    · split at h
      · rename_i c
        obtain ⟨e1, e2, _⟩ := giv_some h
        unfold Pst
        rw [e1, e2]
        rw [Bool.or_eq_true] at c
        rcases c with c | c <;> rw [isw_eq c] <;> decide
      · split at h
        · rename_i c
          obtain ⟨e1, e2, _⟩ := con_some h
          unfold Pst
          rw [e1, e2, isw_eq c]
          decide
        · split at h
          · rename_i hl
            split at h
            · cases h
              unfold Pst
              rw [if_pos hl]; rfl
            · cases h
          · cases h
theorem alls_pst : ∀ {L : List (Nat × List (List UInt8))} {l : List Rd.Sm}, alls L = some l → ∀ s ∈ l, Pst s
  | [], l, h, s, hs => by cases h; cases hs
  | x :: L, l, h, s, hs => by
    rw [alls_cons] at h
    cases h1 : par (bas x.2) with
    | none => simp [h1] at h
    | some a =>
      cases h2 : alls L with
      | none => simp [h1, h2] at h
      | some m =>
        simp only [h1, h2, Option.some.injEq] at h
        subst h
        rcases List.mem_cons.1 hs with rfl | hs
        · exact par_pst h1
        · exact alls_pst h2 s hs

/-- the place of a name -/
def fnd : List ByteArray → ByteArray → Option Nat
  | [], _ => none
  | y :: l, x => if y = x then some 0 else (fnd l x).map (· + 1)
theorem fnd_lt : ∀ {l : List ByteArray} {x : ByteArray} {k : Nat}, fnd l x = some k → k < l.length
  | y :: l, x, k, h => by
    unfold fnd at h
    split at h
    · cases h; simp
    · cases h2 : fnd l x with
      | none => simp [h2] at h
      | some j => simp [h2] at h; have := fnd_lt h2; simp; omega
theorem fnd_none : ∀ {l : List ByteArray} {x : ByteArray}, fnd l x = none ↔ x ∉ l
  | [], x => by simp [fnd]
  | y :: l, x => by
    unfold fnd
    by_cases h : y = x
    · simp [h]
    · rw [if_neg h, Option.map_eq_none_iff, fnd_none]
      simp [Ne.symm h]
theorem fnd_snoc (l : List ByteArray) (x y : ByteArray) : fnd (l ++ [y]) x = match fnd l x with | some k => some k | none => if y = x then some l.length else none := by
  induction l with
  | nil => simp [fnd]
  | cons z l ih =>
    rw [List.cons_append]
    unfold fnd
    by_cases h : z = x
    · simp [h]
    · rw [if_neg h, if_neg h, ih]
      cases fnd l x with
      | some k => rfl
      | none => by_cases e : y = x <;> simp [e]
/-- the places of names -/
def fnds (ns : List ByteArray) : List ByteArray → Option (List Nat)
  | [] => some []
  | x :: l => match fnd ns x, fnds ns l with
    | some k, some ks => some (k :: ks)
    | _, _ => none
theorem fnds_len {ns : List ByteArray} : ∀ {l : List ByteArray} {ks : List Nat}, fnds ns l = some ks → ks.length = l.length
  | [], ks, h => by cases h; rfl
  | x :: l, ks, h => by
    unfold fnds at h
    cases h1 : fnd ns x with
    | none => simp [h1] at h
    | some k =>
      cases h2 : fnds ns l with
      | none => simp [h1, h2] at h
      | some m => simp [h1, h2] at h; subst h; simp [fnds_len h2]
theorem fnds_lt {ns : List ByteArray} : ∀ {l : List ByteArray} {ks : List Nat}, fnds ns l = some ks → ∀ k ∈ ks, k < ns.length
  | [], ks, h, k, hk => by cases h; cases hk
  | x :: l, ks, h, k, hk => by
    unfold fnds at h
    cases h1 : fnd ns x with
    | none => simp [h1] at h
    | some j =>
      cases h2 : fnds ns l with
      | none => simp [h1, h2] at h
      | some m =>
        simp [h1, h2] at h; subst h
        rcases List.mem_cons.1 hk with rfl | hk
        · exact fnd_lt h1
        · exact fnds_lt h2 k hk
/-- what has been built -/
structure St where
  l : List Nd
  ns : List ByteArray
  loss : Int
def s0 : St := ⟨[], [], -1⟩
/-- the node that a statement tells -/
def nod (s : Rd.Sm) (A B : Int) : Nd := ⟨s.op, A, B, if nmd s.op then s.name else em, s.dims, s.k, s.n, s.data⟩
def pA (ks : List Nat) : Int := match ks with | k :: _ => k | [] => 0
def pB (ks : List Nat) : Int := match ks with | _ :: k :: _ => k | _ => 0
/-- a statement more, or the error -/
def stp (σ : St) (s : Rd.Sm) : Except Nat St :=
  if isw s.op lLoss = true then
    match fnds σ.ns s.args with
    | none => .error 5
    | some ks => if 0 ≤ σ.loss then .error 6 else if (sha σ.l (pA ks)).length = 0 then .ok { σ with loss := pA ks } else .error 7
  else if (fnd σ.ns s.name).isSome then .error 6
  else match fnds σ.ns s.args with
    | none => .error 5
    | some ks => if σ.l.length = 200 then .error 8
      else match shp σ.l (nod s (pA ks) (pB ks)) with
        | none => .error 4
        | some d => .ok { σ with l := σ.l ++ [{ nod s (pA ks) (pB ks) with shape := d }], ns := σ.ns ++ [s.name] }
/-- all statements: the graph, or the place and the number of the error -/
def bld (σ : St) (i : Nat) : List Rd.Sm → Except (Nat × Nat) (List Nd × Int)
  | [] => if 0 ≤ σ.loss then .ok (σ.l, σ.loss) else .error (i, 7)
  | s :: r => match stp σ s with
    | .ok τ => bld τ (i + 1) r
    | .error e => .error (i, e)

/-- what holds of what has been built -/
structure Ok (σ : St) : Prop where
  len : σ.ns.length = σ.l.length
  few : σ.l.length ≤ 200
  right : nrs σ.l = true
  names : ∀ x ∈ σ.l, x.name.size = 0 ∨ x.name ∈ σ.ns
  loss : σ.loss = -1 ∨ (inl σ.l.length σ.loss = true ∧ (sha σ.l σ.loss).length = 0)
theorem Ok.zero : Ok s0 := ⟨rfl, by simp [s0], rfl, fun x hx => (by cases hx), .inl rfl⟩
theorem own_dims {s : Rd.Sm} {A B : Int} {a b d : List Int} (h : own (nod s A B) a b = some d) : own { nod s A B with shape := d } a b = some d := by
  by_cases c : (isw (nod s A B).op lParam || isw (nod s A B).op lInput) = true
  · unfold own at h ⊢
    rw [if_pos c] at h
    rw [if_pos c]
    obtain ⟨e, hr⟩ := rgo_some h
    rw [← e] at hr
    exact rgo_of hr
  · exact own_shape h (by simpa using c)
theorem shp_dims {l : List Nd} {s : Rd.Sm} {A B : Int} {d : List Int} (h : shp l (nod s A B) = some d) : shp l { nod s A B with shape := d } = some d := by
  obtain ⟨m, h1, h2, h3, h4, h5⟩ := shp_some h
  unfold shp
  simp only [h1]
  rw [if_pos ⟨h2, h3, h4⟩]
  exact own_dims h5
theorem shp_name {l : List Nd} {n : Nd} {d : List Int} (h : shp l n = some d) : nmd n.op = true → ¬ n.name.size = 0 := by
  intro c e
  obtain ⟨m, _, _, h3, _⟩ := shp_some h
  unfold nok at h3
  unfold nmd at c
  rw [if_pos c] at h3
  have : n.name = em := by
    have := Array.eq_empty_of_size_eq_zero (xs := n.name.data) e
    cases hxn : n.name with
    | mk d => rw [hxn] at this; simp only at this; rw [this]
  rw [this, nmb_em] at h3; cases h3
theorem pA_in {σ : St} (hσ : Ok σ) {args : List ByteArray} {ks : List Nat} (h : fnds σ.ns args = some ks) (h1 : ks ≠ []) : inl σ.l.length (pA ks) = true := by
  cases ks with
  | nil => exact absurd rfl h1
  | cons k r =>
    have := fnds_lt h k List.mem_cons_self
    rw [hσ.len] at this
    rw [inl_iff]; simp only [pA]; omega
theorem stp_ok {σ τ : St} {s : Rd.Sm} (hs : Pst s) (hσ : Ok σ) (h : stp σ s = .ok τ) : Ok τ := by
  unfold stp at h
  split at h
  · rename_i hl
    unfold Pst at hs
    rw [if_pos hl] at hs
    split at h
    · cases h
    · rename_i ks hk
      split at h
      · cases h
      · split at h
        · rename_i h0
          cases h
          have hlen := fnds_len hk
          exact ⟨hσ.len, hσ.few, hσ.right, hσ.names, .inr ⟨pA_in hσ hk (by intro c; rw [c, hs] at hlen; cases hlen), h0⟩⟩
        · cases h
  · split at h
    · cases h
    · rename_i hn
      split at h
      · cases h
      · rename_i ks hk
        split at h
        · cases h
        · rename_i h200
          split at h
          · cases h
          · rename_i d hd
            cases h
            have hf := hσ.few
            have hno : s.name ∉ σ.ns := fnd_none.1 (by simpa using hn)
            refine ⟨by simp [hσ.len], by simp; omega, ?_, ?_, ?_⟩
            · rw [nrs_snoc, hσ.right, nri_snoc]
              simp only [Bool.true_and, Bool.and_eq_true, Bool.or_eq_true, decide_eq_true_eq]
              refine ⟨shp_dims hd, ?_⟩
              by_cases c : nmd s.op = true
              · refine .inr (List.all_eq_true.2 fun x hx => ?_)
                have e : (nod s (pA ks) (pB ks)).name = s.name := by simp [nod, c]
                have hz := shp_name hd c
                rw [e] at hz
                simp only [decide_eq_true_eq]
                rw [e]
                intro hxe
                rcases hσ.names x hx with hx0 | hx0
                · rw [hxe] at hx0; exact hz hx0
                · rw [hxe] at hx0; exact hno hx0
              · refine .inl ?_
                simp only [nod]; rw [if_neg c]; rfl
            · intro x hx
              rcases List.mem_append.1 hx with hx | hx
              · rcases hσ.names x hx with c | c
                · exact .inl c
                · exact .inr (List.mem_append_left _ c)
              · rw [List.mem_singleton] at hx
                subst hx
                by_cases c : nmd s.op = true
                · exact .inr (by simp [nod, c])
                · exact .inl (by simp only [nod]; rw [if_neg c]; rfl)
            · rcases hσ.loss with c | ⟨c1, c2⟩
              · exact .inl c
              · exact .inr ⟨inl_more c1 (by simp), by rw [sha_more c1]; exact c2⟩
/-- what is built is right -/
theorem bld_right : ∀ {L : List Rd.Sm} {σ : St} {i : Nat} {l : List Nd} {loss : Int}, (∀ s ∈ L, Pst s) → Ok σ → bld σ i L = .ok (l, loss) → grt l loss = true
  | [], σ, i, l, loss, hL, hσ, h => by
    unfold bld at h
    split at h
    · rename_i h0
      cases h
      rcases hσ.loss with c | ⟨c1, c2⟩
      · rw [c] at h0; exact absurd h0 (by decide)
      · have hi := inl_iff.1 c1
        exact grt_iff.2 ⟨by omega, hσ.few, c1, c2, hσ.right⟩
    · cases h
  | s :: L, σ, i, l, loss, hL, hσ, h => by
    unfold bld at h
    split at h
    · rename_i τ ht
      exact bld_right (fun x hx => hL x (List.mem_cons_of_mem _ hx)) (stp_ok (hL s List.mem_cons_self) hσ ht) h
    · cases h
end Go.Proofs.YtadgnafafdfioaaGreatDoor.Gr
