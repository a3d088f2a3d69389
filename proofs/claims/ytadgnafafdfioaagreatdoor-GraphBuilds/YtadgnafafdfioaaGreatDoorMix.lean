/-
  SUMS, PRODUCTS, DIFFERENCES OF FRACTIONS. Conditions: each theorem's own.
-/
import Derived.Deep.QuietTactic
import Derived.Deep.RegionWith
import Derived.BigQuiet
import Derived.Test.YtadgnafafdfioaaGreatDoorFrac
import Derived.Test.YtadgnafafdfioaaGreatDoorTell
import Derived.Deep.CutRange
namespace Go.Proofs.YtadgnafafdfioaaGreatDoor
section
open Go
set_option linter.unusedVariables false

/-- the step at n is the last one and waits for all others; no step is guarded or waits for a later one -/
def lastB (md : Region.Mode) (l : List Oper) (n : Nat) : Bool :=
  l.length == n + 1 && l.all (fun o => o.guard.isNone) &&
    (List.range (n + 1)).all (fun j => (l[j]?).all fun o => o.after.all fun e => !Region.binds md e || decide (e.on < j)) &&
    (List.range n).all (fun i => (l[n]?).all fun o => o.after.any fun e => Region.binds md e && e.on == i)

section
variable {P : Program} {md : Region.Mode} {C : World → Prop} {l : List Oper} {n : Nat}

theorem last_spec (h : lastB md l n = true) :
    l.length = n + 1 ∧ (∀ (j : Nat) (o : Oper), l[j]? = some o → o.guard = none) ∧ (∀ (j : Nat) (o : Oper), l[j]? = some o → ∀ e ∈ o.after, Region.binds md e = true → e.on < j) ∧
    (∀ (o : Oper), l[n]? = some o → ∀ i, i < n → ∃ e ∈ o.after, Region.binds md e = true ∧ e.on = i) := by
  unfold lastB at h
  simp only [Bool.and_eq_true, beq_iff_eq, List.all_eq_true, List.mem_range] at h
  obtain ⟨⟨⟨h1, h2⟩, h3⟩, h4⟩ := h
  refine ⟨h1, fun j o ho => ?_, fun j o ho e he hb => ?_, fun o ho i hi => ?_⟩
  · exact Option.isNone_iff_eq_none.1 (h2 o (List.mem_of_getElem? ho))
  · have hj : j < n + 1 := by rw [← h1]; exact (List.getElem?_eq_some_iff.1 ho).1
    have := h3 j hj
    rw [ho] at this
    have := (Array.all_eq_true_iff_forall_mem.1 this) e he
    rw [hb] at this
    simpa using this
  · have := h4 i hi
    rw [ho] at this
    obtain ⟨e, he, hb⟩ := Array.any_eq_true'.1 this
    simp only [Bool.and_eq_true, beq_iff_eq] at hb
    exact ⟨e, he, hb.1, hb.2⟩

theorem push_lt {L : Array Bool} {j : Nat} (d : Bool) (h : j < L.size) : (L.push false).getD j d = L.getD j d := by
  simp [Array.getElem?_push_lt h, h]
theorem push_eq {L : Array Bool} (d : Bool) : (L.push false).getD L.size d = false := by simp
theorem push_set {L : Array Bool} {i : Nat} (h : i < L.size) : (L.push false).setIfInBounds i true = (L.setIfInBounds i true).push false := by
  apply Array.ext_getElem?
  intro j
  rw [Array.getElem?_setIfInBounds, Array.getElem?_push, Array.getElem?_push, Array.getElem?_setIfInBounds]
  by_cases h1 : i = j
  · subst h1; simp [h, Nat.ne_of_lt h, Nat.lt_succ_of_lt h]
  · simp [h1]

theorem get_take {j : Nat} (h : j < n) : (l.take n).toArray[j]? = l.toArray[j]? := by
  rw [List.getElem?_toArray, List.getElem?_toArray, List.getElem?_take, if_pos h]

/-- of the steps ahead of the last one the same are ready -/
theorem ready_take (hl : lastB md l n = true) {L : Array Bool} (hL : L.size = n) {j : Nat} (hj : j < n) :
    j ∈ Region.ready md l.toArray (L.push false) ↔ j ∈ Region.ready md (l.take n).toArray L := by
  obtain ⟨h1, h2, h3, h4⟩ := last_spec hl
  rw [mem_ready, mem_ready, get_take hj, push_lt true (by omega)]
  refine and_congr_right fun _ => exists_congr fun o => and_congr_right fun ho => ?_
  have ho' : l[j]? = some o := by rwa [List.getElem?_toArray] at ho
  refine forall_congr' fun e => forall_congr' fun he => forall_congr' fun hb => ?_
  rw [push_lt false (by have := h3 j o ho' e he hb; omega)]

/-- where none of them is ready all have been -/
theorem all_listed (hl : lastB md l n = true) {L : Array Bool} (hL : L.size = n) (h0 : Region.ready md (l.take n).toArray L = []) : ∀ j, j < n → L.getD j false = true := by
  obtain ⟨h1, h2, h3, h4⟩ := last_spec hl
  intro j
  induction j using Nat.strongRecOn with
  | _ j ih =>
    intro hj
    cases hc : L.getD j false with
    | true => rfl
    | false =>
      exfalso
      have hlt : j < L.size := by omega
      have ho : l[j]? = some (l[j]'(by omega)) := List.getElem?_eq_getElem (by omega)
      have : j ∈ Region.ready md (l.take n).toArray L := by
        rw [mem_ready]
        refine ⟨by simp [hlt] at hc ⊢; exact hc, l[j]'(by omega), by rw [get_take hj, List.getElem?_toArray]; exact ho, fun e he hb => ?_⟩
        have := h3 j _ ho e he hb
        exact ih e.on this (by omega)
      rw [h0] at this; cases this

/-- the last one is not ready ahead of the others -/
theorem last_waits (hl : lastB md l n = true) {L : Array Bool} (hL : L.size = n) (h : n ∈ Region.ready md l.toArray (L.push false)) : Region.ready md (l.take n).toArray L = [] := by
  obtain ⟨h1, h2, h3, h4⟩ := last_spec hl
  obtain ⟨_, o, ho, hall⟩ := mem_ready.1 h
  rw [List.getElem?_toArray] at ho
  apply List.eq_nil_iff_forall_not_mem.2
  intro i hi
  obtain ⟨hu, oi, hoi, _⟩ := mem_ready.1 hi
  have hin : i < n := by
    have := (Array.getElem?_eq_some_iff.1 hoi).1
    simp at this; omega
  obtain ⟨e, he, hb, hon⟩ := h4 o ho i hin
  have := hall e he hb
  rw [hon, push_lt false (by omega)] at this
  have hlt : i < L.size := by omega
  simp [hlt] at hu this
  rw [hu] at this; cases this

theorem last_comes (hl : lastB md l n = true) {L : Array Bool} (hL : L.size = n) (h0 : Region.ready md (l.take n).toArray L = []) : n ∈ Region.ready md l.toArray (L.push false) := by
  obtain ⟨h1, h2, h3, h4⟩ := last_spec hl
  have ho : l[n]? = some (l[n]'(by omega)) := List.getElem?_eq_getElem (by omega)
  rw [mem_ready]
  refine ⟨by rw [← hL]; exact push_eq true, l[n]'(by omega), by rw [List.getElem?_toArray]; exact ho, fun e he hb => ?_⟩
  have := h3 n _ ho e he hb
  rw [push_lt false (by omega)]
  exact all_listed hl hL h0 e.on this

theorem wanted_none {o : Oper} (h : o.guard = none) (f : Nat → Option Bool) : Region.wanted o f = true := by unfold Region.wanted; rw [h]

theorem q_take (hl : lastB md l n = true) {i : Nat} (hi : i < n) {K : Act → Prop} {a : Act} (h : qOp P (l.take n).toArray C i K a) : qOp P l.toArray C i K a := by
  obtain ⟨h1, h2, h3, h4⟩ := last_spec hl
  have ho : l[i]? = some (l[i]'(by omega)) := List.getElem?_eq_getElem (by omega)
  unfold qOp at *
  rw [get_take hi] at h
  rw [List.getElem?_toArray, ho] at h ⊢
  simp only [wanted_none (h2 i _ ho), if_true] at h ⊢
  exact h

/-- every order, the last step behind all others -/
theorem any_last (hl : lastB md l n = true) {Q : Exit → Act → World → Prop} : ∀ (f : Nat) (L : Array Bool) (a : Act) (w : World), L.size = n → C w →
    wpAnyQ P md (l.take n).toArray C (fun a' => ∀ w', C w' → wpOp P l.toArray Q n (fun a w => Q .normal a w) a' w') f L a → wpAny P md l.toArray Q (f + 1) (L.push false) a w := by
  obtain ⟨h1, h2, h3, h4⟩ := last_spec hl
  have tail : ∀ (f : Nat) (L : Array Bool) (a : Act) (w : World), L.size = n → C w → Region.ready md (l.take n).toArray L = [] → (∀ w', C w' → wpOp P l.toArray Q n (fun a w => Q .normal a w) a w') →
      wpAny P md l.toArray Q (f + 1) (L.push false) a w := by
    intro f L a w hL hC h0 hq
    have hn := last_comes hl hL h0
    refine ⟨fun h => (by rw [h] at hn; cases hn), fun i hi => ?_⟩
    have hin : i = n := by
      obtain ⟨_, o, ho, _⟩ := mem_ready.1 hi
      have := (Array.getElem?_eq_some_iff.1 ho).1
      simp at this
      rcases Nat.lt_or_ge i n with h | h
      · have := (ready_take hl hL h).1 hi; rw [h0] at this; cases this
      · omega
    subst hin
    have hnone : Region.ready md l.toArray ((L.push false).setIfInBounds i true) = [] := by
      apply List.eq_nil_iff_forall_not_mem.2
      intro j hj
      obtain ⟨hu, o, ho, _⟩ := mem_ready.1 hj
      have hjs := (Array.getElem?_eq_some_iff.1 ho).1
      simp at hjs
      by_cases hji : j = i
      · subst hji
        have : j < ((L.push false).setIfInBounds j true).size := by simp; omega
        simp [hL] at hu
      · rw [getD_set_ne true (Ne.symm hji), push_lt true (by omega)] at hu
        have := all_listed hl hL h0 j (by omega)
        have hlt : j < L.size := by omega
        simp [hlt] at hu this
        rw [hu] at this; cases this
    refine wpOp_mono (fun a' w' h => ?_) (hq w hC)
    cases f with
    | zero => exact ⟨hnone, h⟩
    | succ f => exact ⟨fun _ => h, fun j hj => (by rw [hnone] at hj; cases hj)⟩
  intro f
  induction f with
  | zero => intro L a w hL hC h; exact tail 0 L a w hL hC h.1 h.2
  | succ f ih =>
    intro L a w hL hC h
    by_cases h0 : Region.ready md (l.take n).toArray L = []
    · exact tail (f + 1) L a w hL hC h0 (h.1 h0)
    · refine ⟨fun hr => ?_, fun i hi => ?_⟩
      · exfalso
        apply h0
        apply List.eq_nil_iff_forall_not_mem.2
        intro i hi
        obtain ⟨_, oi, hoi, _⟩ := mem_ready.1 hi
        have hin : i < n := by
          have := (Array.getElem?_eq_some_iff.1 hoi).1
          simp at this; omega
        have := (ready_take hl hL hin).2 hi
        rw [hr] at this; cases this
      · have hin : i < n := by
          obtain ⟨_, o, ho, _⟩ := mem_ready.1 hi
          have := (Array.getElem?_eq_some_iff.1 ho).1
          simp at this
          rcases Nat.lt_or_ge i n with h | h
          · exact h
          · have e : i = n := by omega
            subst e
            exact absurd (last_waits hl hL hi) h0
        refine wpOp_of_qOp hC (fun a' w' hC' hK => ?_) (q_take hl hin (h.2 i ((ready_take hl hL hin).1 hi)))
        rw [push_set (by omega)]
        exact ih _ a' w' (by simp [hL]) hC' hK

/-- the walk does not hang on which row of steps its guards look into -/
theorem walk_take (hl : lastB md l n = true) {Q : Act → Prop} : ∀ (m : List Oper) (a : Act), (∀ o, o ∈ m → o ∈ l) → wpQuiet P l.toArray C Q m a → wpQuiet P (l.take n).toArray C Q m a := by
  obtain ⟨h1, h2, h3, h4⟩ := last_spec hl
  intro m
  induction m with
  | nil => intro a _ h; exact h
  | cons o m ih =>
    intro a hm h
    obtain ⟨j, hj⟩ := List.getElem?_of_mem (hm o List.mem_cons_self)
    unfold wpQuiet at h ⊢
    simp only [wanted_none (h2 j o hj), if_true] at h ⊢
    exact Oper.quiet_mono (fun a' h' => ih a' (fun x hx => hm x (List.mem_cons_of_mem _ hx)) h') h

theorem region_last {id : Nat} {Q : Exit → Act → World → Prop} {a : Act} {w : World} (n : Nat) (C : World → Prop) (hm : P.follows .mixedOrders = true) (hB : Region.lexB .any (l.take n).toArray = true) (hl : lastB .any l n = true) (hC : C w.drew)
    (h : wpQuiet P l.toArray C (fun a' => ∀ w', C w' → wpOp P l.toArray Q n (fun a w => Q .normal a w) a' w') (l.take n) a) : (Code.region id l.toArray true).wp P Q a w := by
  have h1 := (last_spec hl).1
  simp only [Region.lexB, Bool.and_eq_true] at hB
  have hq := wpAnyQ_lex (P := P) (C := C) (md := .any) hB.1 (l.take n) 0 (Array.replicate (l.take n).toArray.size false) a (by simp) (by simpa using hB.2) (walk_take hl _ a (fun o ho => List.mem_of_mem_take ho) h)
  have hlen : (l.take n).length = n := by rw [List.length_take]; omega
  refine wp_region_any hm ?_
  have e : l.toArray.size = (l.take n).length + 1 := by simp; omega
  have := any_last hl (C := C) (P := P) (Q := Q) (l.take n).length (Array.replicate (l.take n).toArray.size false) a w.drew (by simp; omega) hC hq
  rw [← Array.replicate_succ] at this
  rw [e]
  simpa using this

theorem region_calm {id : Nat} {Q : Exit → Act → World → Prop} {a : Act} {w : World} (C : World → Prop) (hm : P.follows .mixedOrders = true) (hB : Region.lexB .any l.toArray = true) (hC : C w.drew)
    (h : wpQuiet P l.toArray C (fun a' => ∀ w', C w' → Q .normal a' w') l a) : (Code.region id l.toArray true).wp P Q a w :=
  wp_region_quiet hm hB hC (by simpa using h)
end
end
end Go.Proofs.YtadgnafafdfioaaGreatDoor
namespace Go.Proofs.YtadgnafafdfioaaGreatDoor
section
set_option maxRecDepth 100000
open Go.RowKit Nm
set_option linter.unusedVariables false

theorem calm_call {P : Program} {C : World → Prop} {f : FuncId} {args : Array Value} {v : World} {x : Value} (cT : ∀ u v, C u → Below u.heap.size u v → C v) (hv : C v)
    (h : Calls P f args v fun e w' => e = .returned x ∧ Below v.heap.size v w') : Calls P f args v fun e w'' => e = .returned x ∧ C w'' :=
  h.mono fun _ _ ⟨he, hb⟩ => ⟨he, cT _ _ hv hb⟩
theorem calm_same {P : Program} {f : FuncId} {args : Array Value} {v : World} {x : Value}
    (h : Calls P f args v fun e w' => e = .returned x ∧ w' = v) : Calls P f args v fun e w' => e = .returned x ∧ Below v.heap.size v w' :=
  h.mono fun _ _ ⟨he, hb⟩ => ⟨he, by subst hb; exact Below.refl _ _⟩
theorem gcd_WW (a b : Nat) (w : World) (ha : tl a ≤ 500000) (hb : tl b ≤ 500000) :
    Calls Tryz.prog 83 #[.string (W (a : Int)), .string (W (b : Int))] w fun e w' => e = .returned (.string (S (Nat.gcd a b))) ∧ Below w.heap.size w w' := by
  rw [W_nat, W_nat]; exact gcd_S a b w ha hb
theorem gcd_SW (a b : Nat) (w : World) (ha : tl a ≤ 500000) (hb : tl b ≤ 500000) :
    Calls Tryz.prog 83 #[.string (S a), .string (W (b : Int))] w fun e w' => e = .returned (.string (S (Nat.gcd a b))) ∧ Below w.heap.size w w' := by
  rw [W_nat]; exact gcd_S a b w ha hb
theorem sizeW (z : Int) (w : World) (hz : tl z.natAbs ≤ 2500000) : Calls Tryz.prog 84 #[.string (W z)] w fun e w' => e = .returned (.string (S z.natAbs)) ∧ w' = w := by
  have := size_any (W z) w (by have := W_size z; omega)
  rw [sz_W] at this; exact this
end
end Go.Proofs.YtadgnafafdfioaaGreatDoor
namespace Go.Proofs.YtadgnafafdfioaaGreatDoor
section
set_option maxRecDepth 100000
open Go.RowKit Nm
set_option linter.unusedVariables false

end
end Go.Proofs.YtadgnafafdfioaaGreatDoor
