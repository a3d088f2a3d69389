/-
  SUMS, PRODUCTS, DIFFERENCES OF FRACTIONS. Conditions: each theorem's own.
-/
import Derived.Deep.QuietTactic
import Derived.Deep.RegionWith
import Derived.BigQuiet
import Derived.Test.YtjkobbpebnkimaaGreatDoorFrac
import Derived.Test.YtjkobbpebnkimaaGreatDoorTell
import Derived.Deep.CutRange
namespace Go.Proofs.YtjkobbpebnkimaaGreatDoor
section
open Go
set_option linter.unusedVariables false

/-- the step at n is the last one and waits for all others; no step is guarded or waits for a later one -/
def lastB (md : Region.Mode) (l : List Oper) (n : Nat) : Bool :=
  l.length == n + 1 && l.all (fun o => o.guard.isNone) &&
    (List.range (n + 1)).all (fun j => (l[j]?).all fun o => o.after.all fun e => !Region.binds md e || decide (e.on < j)) &&
    (List.range n).all (fun i => (l[n]?).all fun o => o.after.any fun e => Region.binds md e && e.on == i)

section
variable {P : Program} {md : Region.Mode} {C : World → Prop} {l : List Oper} {n : Nat}

theorem last_spec (h : lastB md l n = true) :
    l.length = n + 1 ∧ (∀ (j : Nat) (o : Oper), l[j]? = some o → o.guard = none) ∧ (∀ (j : Nat) (o : Oper), l[j]? = some o → ∀ e ∈ o.after, Region.binds md e = true → e.on < j) ∧
    (∀ (o : Oper), l[n]? = some o → ∀ i, i < n → ∃ e ∈ o.after, Region.binds md e = true ∧ e.on = i) := by
  unfold lastB at h
  simp only [Bool.and_eq_true, beq_iff_eq, List.all_eq_true, List.mem_range] at h
  obtain ⟨⟨⟨h1, h2⟩, h3⟩, h4⟩ := h
  refine ⟨h1, fun j o ho => ?_, fun j o ho e he hb => ?_, fun o ho i hi => ?_⟩
  · exact Option.isNone_iff_eq_none.1 (h2 o (List.mem_of_getElem? ho))
  · have hj : j < n + 1 := by rw [← h1]; exact (List.getElem?_eq_some_iff.1 ho).1
    have := h3 j hj
    rw [ho] at this
    have := (Array.all_eq_true_iff_forall_mem.1 this) e he
    rw [hb] at this
    simpa using this
  · have := h4 i hi
    rw [ho] at this
    obtain ⟨e, he, hb⟩ := Array.any_eq_true'.1 this
    simp only [Bool.and_eq_true, beq_iff_eq] at hb
    exact ⟨e, he, hb.1, hb.2⟩

theorem push_lt {L : Array Bool} {j : Nat} (d : Bool) (h : j < L.size) : (L.push false).getD j d = L.getD j d := by
  simp [Array.getElem?_push_lt h, h]
theorem push_eq {L : Array Bool} (d : Bool) : (L.push false).getD L.size d = false := by simp
theorem push_set {L : Array Bool} {i : Nat} (h : i < L.size) : (L.push false).setIfInBounds i true = (L.setIfInBounds i true).push false := by
  apply Array.ext_getElem?
  intro j
  rw [Array.getElem?_setIfInBounds, Array.getElem?_push, Array.getElem?_push, Array.getElem?_setIfInBounds]
  by_cases h1 : i = j
  · subst h1; simp [h, Nat.ne_of_lt h, Nat.lt_succ_of_lt h]
  · simp [h1]

theorem get_take {j : Nat} (h : j < n) : (l.take n).toArray[j]? = l.toArray[j]? := by
  rw [List.getElem?_toArray, List.getElem?_toArray, List.getElem?_take, if_pos h]

/-- of the steps ahead of the last one the same are ready -/
theorem ready_take (hl : lastB md l n = true) {L : Array Bool} (hL : L.size = n) {j : Nat} (hj : j < n) :
    j ∈ Region.ready md l.toArray (L.push false) ↔ j ∈ Region.ready md (l.take n).toArray L := by
  obtain ⟨h1, h2, h3, h4⟩ := last_spec hl
  rw [mem_ready, mem_ready, get_take hj, push_lt true (by omega)]
  refine and_congr_right fun _ => exists_congr fun o => and_congr_right fun ho => ?_
  have ho' : l[j]? = some o := by rwa [List.getElem?_toArray] at ho
  refine forall_congr' fun e => forall_congr' fun he => forall_congr' fun hb => ?_
  rw [push_lt false (by have := h3 j o ho' e he hb; omega)]

/-- where none of them is ready all have been -/
theorem all_listed (hl : lastB md l n = true) {L : Array Bool} (hL : L.size = n) (h0 : Region.ready md (l.take n).toArray L = []) : ∀ j, j < n → L.getD j false = true := by
  obtain ⟨h1, h2, h3, h4⟩ := last_spec hl
  intro j
  induction j using Nat.strongRecOn with
  | _ j ih =>
    intro hj
    cases hc : L.getD j false with
    | true => rfl
    | false =>
      exfalso
      have hlt : j < L.size := by omega
      have ho : l[j]? = some (l[j]'(by omega)) := List.getElem?_eq_getElem (by omega)
      have : j ∈ Region.ready md (l.take n).toArray L := by
        rw [mem_ready]
        refine ⟨by simp [hlt] at hc ⊢; exact hc, l[j]'(by omega), by rw [get_take hj, List.getElem?_toArray]; exact ho, fun e he hb => ?_⟩
        have := h3 j _ ho e he hb
        exact ih e.on this (by omega)
      rw [h0] at this; cases this

/-- the last one is not ready ahead of the others -/
theorem last_waits (hl : lastB md l n = true) {L : Array Bool} (hL : L.size = n) (h : n ∈ Region.ready md l.toArray (L.push false)) : Region.ready md (l.take n).toArray L = [] := by
  obtain ⟨h1, h2, h3, h4⟩ := last_spec hl
  obtain ⟨_, o, ho, hall⟩ := mem_ready.1 h
  rw [List.getElem?_toArray] at ho
  apply List.eq_nil_iff_forall_not_mem.2
  intro i hi
  obtain ⟨hu, oi, hoi, _⟩ := mem_ready.1 hi
  have hin : i < n := by
    have := (Array.getElem?_eq_some_iff.1 hoi).1
    simp at this; omega
  obtain ⟨e, he, hb, hon⟩ := h4 o ho i hin
  have := hall e he hb
  rw [hon, push_lt false (by omega)] at this
  have hlt : i < L.size := by omega
  simp [hlt] at hu this
  rw [hu] at this; cases this

theorem last_comes (hl : lastB md l n = true) {L : Array Bool} (hL : L.size = n) (h0 : Region.ready md (l.take n).toArray L = []) : n ∈ Region.ready md l.toArray (L.push false) := by
  obtain ⟨h1, h2, h3, h4⟩ := last_spec hl
  have ho : l[n]? = some (l[n]'(by omega)) := List.getElem?_eq_getElem (by omega)
  rw [mem_ready]
  refine ⟨by rw [← hL]; exact push_eq true, l[n]'(by omega), by rw [List.getElem?_toArray]; exact ho, fun e he hb => ?_⟩
  have := h3 n _ ho e he hb
  rw [push_lt false (by omega)]
  exact all_listed hl hL h0 e.on this

theorem wanted_none {o : Oper} (h : o.guard = none) (f : Nat → Option Bool) : Region.wanted o f = true := by unfold Region.wanted; rw [h]

theorem q_take (hl : lastB md l n = true) {i : Nat} (hi : i < n) {K : Act → Prop} {a : Act} (h : qOp P (l.take n).toArray C i K a) : qOp P l.toArray C i K a := by
  obtain ⟨h1, h2, h3, h4⟩ := last_spec hl
  have ho : l[i]? = some (l[i]'(by omega)) := List.getElem?_eq_getElem (by omega)
  unfold qOp at *
  rw [get_take hi] at h
  rw [List.getElem?_toArray, ho] at h ⊢
  simp only [wanted_none (h2 i _ ho), if_true] at h ⊢
  exact h

/-- every order, the last step behind all others -/
theorem any_last (hl : lastB md l n = true) {Q : Exit → Act → World → Prop} : ∀ (f : Nat) (L : Array Bool) (a : Act) (w : World), L.size = n → C w →
    wpAnyQ P md (l.take n).toArray C (fun a' => ∀ w', C w' → wpOp P l.toArray Q n (fun a w => Q .normal a w) a' w') f L a → wpAny P md l.toArray Q (f + 1) (L.push false) a w := by
  obtain ⟨h1, h2, h3, h4⟩ := last_spec hl
  have tail : ∀ (f : Nat) (L : Array Bool) (a : Act) (w : World), L.size = n → C w → Region.ready md (l.take n).toArray L = [] → (∀ w', C w' → wpOp P l.toArray Q n (fun a w => Q .normal a w) a w') →
      wpAny P md l.toArray Q (f + 1) (L.push false) a w := by
    intro f L a w hL hC h0 hq
    have hn := last_comes hl hL h0
    refine ⟨fun h => (by rw [h] at hn; cases hn), fun i hi => ?_⟩
    have hin : i = n := by
      obtain ⟨_, o, ho, _⟩ := mem_ready.1 hi
      have := (Array.getElem?_eq_some_iff.1 ho).1
      simp at this
      rcases Nat.lt_or_ge i n with h | h
      · have := (ready_take hl hL h).1 hi; rw [h0] at this; cases this
      · omega
    subst hin
    have hnone : Region.ready md l.toArray ((L.push false).setIfInBounds i true) = [] := by
      apply List.eq_nil_iff_forall_not_mem.2
      intro j hj
      obtain ⟨hu, o, ho, _⟩ := mem_ready.1 hj
      have hjs := (Array.getElem?_eq_some_iff.1 ho).1
      simp at hjs
      by_cases hji : j = i
      · subst hji
        have : j < ((L.push false).setIfInBounds j true).size := by simp; omega
        simp [hL] at hu
      · rw [getD_set_ne true (Ne.symm hji), push_lt true (by omega)] at hu
        have := all_listed hl hL h0 j (by omega)
        have hlt : j < L.size := by omega
        simp [hlt] at hu this
        rw [hu] at this; cases this
    refine wpOp_mono (fun a' w' h => ?_) (hq w hC)
    cases f with
    | zero => exact ⟨hnone, h⟩
    | succ f => exact ⟨fun _ => h, fun j hj => (by rw [hnone] at hj; cases hj)⟩
  intro f
  induction f with
  | zero => intro L a w hL hC h; exact tail 0 L a w hL hC h.1 h.2
  | succ f ih =>
    intro L a w hL hC h
    by_cases h0 : Region.ready md (l.take n).toArray L = []
    · exact tail (f + 1) L a w hL hC h0 (h.1 h0)
    · refine ⟨fun hr => ?_, fun i hi => ?_⟩
      · exfalso
        apply h0
        apply List.eq_nil_iff_forall_not_mem.2
        intro i hi
        obtain ⟨_, oi, hoi, _⟩ := mem_ready.1 hi
        have hin : i < n := by
          have := (Array.getElem?_eq_some_iff.1 hoi).1
          simp at this; omega
        have := (ready_take hl hL hin).2 hi
        rw [hr] at this; cases this
      · have hin : i < n := by
          obtain ⟨_, o, ho, _⟩ := mem_ready.1 hi
          have := (Array.getElem?_eq_some_iff.1 ho).1
          simp at this
          rcases Nat.lt_or_ge i n with h | h
          · exact h
          · have e : i = n := by omega
            subst e
            exact absurd (last_waits hl hL hi) h0
        refine wpOp_of_qOp hC (fun a' w' hC' hK => ?_) (q_take hl hin (h.2 i ((ready_take hl hL hin).1 hi)))
        rw [push_set (by omega)]
        exact ih _ a' w' (by simp [hL]) hC' hK

/-- the walk does not hang on which row of steps its guards look into -/
theorem walk_take (hl : lastB md l n = true) {Q : Act → Prop} : ∀ (m : List Oper) (a : Act), (∀ o, o ∈ m → o ∈ l) → wpQuiet P l.toArray C Q m a → wpQuiet P (l.take n).toArray C Q m a := by
  obtain ⟨h1, h2, h3, h4⟩ := last_spec hl
  intro m
  induction m with
  | nil => intro a _ h; exact h
  | cons o m ih =>
    intro a hm h
    obtain ⟨j, hj⟩ := List.getElem?_of_mem (hm o List.mem_cons_self)
    unfold wpQuiet at h ⊢
    simp only [wanted_none (h2 j o hj), if_true] at h ⊢
    exact Oper.quiet_mono (fun a' h' => ih a' (fun x hx => hm x (List.mem_cons_of_mem _ hx)) h') h

theorem region_last {id : Nat} {Q : Exit → Act → World → Prop} {a : Act} {w : World} (n : Nat) (C : World → Prop) (hm : P.follows .mixedOrders = true) (hB : Region.lexB .any (l.take n).toArray = true) (hl : lastB .any l n = true) (hC : C w.drew)
    (h : wpQuiet P l.toArray C (fun a' => ∀ w', C w' → wpOp P l.toArray Q n (fun a w => Q .normal a w) a' w') (l.take n) a) : (Code.region id l.toArray true).wp P Q a w := by
  have h1 := (last_spec hl).1
  simp only [Region.lexB, Bool.and_eq_true] at hB
  have hq := wpAnyQ_lex (P := P) (C := C) (md := .any) hB.1 (l.take n) 0 (Array.replicate (l.take n).toArray.size false) a (by simp) (by simpa using hB.2) (walk_take hl _ a (fun o ho => List.mem_of_mem_take ho) h)
  have hlen : (l.take n).length = n := by rw [List.length_take]; omega
  refine wp_region_any hm ?_
  have e : l.toArray.size = (l.take n).length + 1 := by simp; omega
  have := any_last hl (C := C) (P := P) (Q := Q) (l.take n).length (Array.replicate (l.take n).toArray.size false) a w.drew (by simp; omega) hC hq
  rw [← Array.replicate_succ] at this
  rw [e]
  simpa using this

theorem region_calm {id : Nat} {Q : Exit → Act → World → Prop} {a : Act} {w : World} (C : World → Prop) (hm : P.follows .mixedOrders = true) (hB : Region.lexB .any l.toArray = true) (hC : C w.drew)
    (h : wpQuiet P l.toArray C (fun a' => ∀ w', C w' → Q .normal a' w') l a) : (Code.region id l.toArray true).wp P Q a w :=
  wp_region_quiet hm hB hC (by simpa using h)
end
end
end Go.Proofs.YtjkobbpebnkimaaGreatDoor
namespace Go.Proofs.YtjkobbpebnkimaaGreatDoor
section
set_option maxRecDepth 100000
open Go.RowKit Nm
set_option linter.unusedVariables false

theorem calm_call {P : Program} {C : World → Prop} {f : FuncId} {args : Array Value} {v : World} {x : Value} (cT : ∀ u v, C u → Below u.heap.size u v → C v) (hv : C v)
    (h : Calls P f args v fun e w' => e = .returned x ∧ Below v.heap.size v w') : Calls P f args v fun e w'' => e = .returned x ∧ C w'' :=
  h.mono fun _ _ ⟨he, hb⟩ => ⟨he, cT _ _ hv hb⟩
theorem calm_same {P : Program} {f : FuncId} {args : Array Value} {v : World} {x : Value}
    (h : Calls P f args v fun e w' => e = .returned x ∧ w' = v) : Calls P f args v fun e w' => e = .returned x ∧ Below v.heap.size v w' :=
  h.mono fun _ _ ⟨he, hb⟩ => ⟨he, by subst hb; exact Below.refl _ _⟩
theorem gcd_WW (a b : Nat) (w : World) (ha : tl a ≤ 500000) (hb : tl b ≤ 500000) :
    Calls Tryz.prog 90 #[.string (W (a : Int)), .string (W (b : Int))] w fun e w' => e = .returned (.string (S (Nat.gcd a b))) ∧ Below w.heap.size w w' := by
  rw [W_nat, W_nat]; exact gcd_S a b w ha hb
theorem gcd_SW (a b : Nat) (w : World) (ha : tl a ≤ 500000) (hb : tl b ≤ 500000) :
    Calls Tryz.prog 90 #[.string (S a), .string (W (b : Int))] w fun e w' => e = .returned (.string (S (Nat.gcd a b))) ∧ Below w.heap.size w w' := by
  rw [W_nat]; exact gcd_S a b w ha hb
theorem sizeW (z : Int) (w : World) (hz : tl z.natAbs ≤ 2500000) : Calls Tryz.prog 91 #[.string (W z)] w fun e w' => e = .returned (.string (S z.natAbs)) ∧ w' = w := by
  have := size_any (W z) w (by have := W_size z; omega)
  rw [sz_W] at this; exact this
theorem shortN (n g : Nat) (w : World) (hn : tl n ≤ 500000) (hg : tl g ≤ 500000) (h0 : g ≠ 0) (hd : g ∣ n) :
    Calls Tryz.prog 94 #[.string (W (n : Int)), .string (S g)] w fun e w' => e = .returned (.string (W ((n / g : Nat) : Int))) ∧ Below w.heap.size w w' :=
  short_W (n : Int) g w hn hg h0 hd

set_option maxHeartbeats 8000000 in
theorem sum_raw (p q : Int) (r t g k : Nat) (m : Int) (w : World) (hp : tl p.natAbs ≤ 100000) (hq : tl q.natAbs ≤ 100000) (hr : tl r ≤ 100000) (ht : tl t ≤ 100000) (hr0 : r ≠ 0) (ht0 : t ≠ 0)
    (hg : g = r.gcd t) (hm : m = p * (t / g : Nat) + q * (r / g : Nat)) (hk : k = m.natAbs.gcd g) :
    Calls Tryz.prog 73 #[.agg #[.string (W p), .string (W (r : Int))], .agg #[.string (W q), .string (W (t : Int))]] w fun e w' => e = .returned (.agg #[.string (W (m / (k : Int))), .string (W (((r / g : Nat) : Int) * ((t / k : Nat) : Int)))]) ∧ Below w.heap.size w w' := by
  have g0 : g ≠ 0 := by rw [hg]; exact Nat.ne_of_gt (Nat.gcd_pos_of_pos_left _ (Nat.pos_of_ne_zero hr0))
  have k0 : k ≠ 0 := by rw [hk]; exact Nat.ne_of_gt (Nat.gcd_pos_of_pos_right _ (Nat.pos_of_ne_zero g0))
  have gr : g ∣ r := by rw [hg]; exact Nat.gcd_dvd_left _ _
  have gt : g ∣ t := by rw [hg]; exact Nat.gcd_dvd_right _ _
  have kg : k ∣ g := by rw [hk]; exact Nat.gcd_dvd_right _ _
  have km : k ∣ m.natAbs := by rw [hk]; exact Nat.gcd_dvd_left _ _
  have kt : k ∣ t := Nat.dvd_trans kg gt
  have tg : tl g ≤ 100000 := Nat.le_trans (tl_mono (Nat.le_of_dvd (Nat.pos_of_ne_zero hr0) gr)) hr
  have tk : tl k ≤ 100000 := Nat.le_trans (tl_mono (Nat.le_of_dvd (Nat.pos_of_ne_zero g0) kg)) tg
  have t1 : tl (r / g) ≤ 100000 := Nat.le_trans (tl_mono (Nat.div_le_self _ _)) hr
  have t2 : tl (t / g) ≤ 100000 := Nat.le_trans (tl_mono (Nat.div_le_self _ _)) ht
  have t3 : tl (t / k) ≤ 100000 := Nat.le_trans (tl_mono (Nat.div_le_self _ _)) ht
  have n1 : tl (p * (t / g : Nat)).natAbs ≤ 200000 := by rw [Int.natAbs_mul]; have := tl_mul p.natAbs (t / g); simp only [Int.natAbs_natCast]; omega
  have n2 : tl (q * (r / g : Nat)).natAbs ≤ 200000 := by rw [Int.natAbs_mul]; have := tl_mul q.natAbs (r / g); simp only [Int.natAbs_natCast]; omega
  have n3 : tl m.natAbs ≤ 400000 := by
    rw [hm]; have := tl_mono (Int.natAbs_add_le (p * (t / g : Nat)) (q * (r / g : Nat)))
    have := tl_add (p * (t / g : Nat)).natAbs (q * (r / g : Nat)).natAbs
    omega
  have E1 : ∀ v : World, Calls Tryz.prog 90 #[.string (W (r : Int)), .string (W (t : Int))] v fun e w' => e = .returned (.string (S g)) ∧ Below v.heap.size v w' := fun v => by rw [hg]; exact gcd_WW r t v (by omega) (by omega)
  have E2 : ∀ v : World, Calls Tryz.prog 94 #[.string (W (r : Int)), .string (S g)] v fun e w' => e = .returned (.string (W ((r / g : Nat) : Int))) ∧ Below v.heap.size v w' := fun v => shortN r g v (by omega) (by omega) g0 gr
  have E3 : ∀ v : World, Calls Tryz.prog 94 #[.string (W (t : Int)), .string (S g)] v fun e w' => e = .returned (.string (W ((t / g : Nat) : Int))) ∧ Below v.heap.size v w' := fun v => shortN t g v (by omega) (by omega) g0 gt
  have E4 : ∀ v : World, Calls Tryz.prog 93 #[.string (W p), .string (W ((t / g : Nat) : Int))] v fun e w' => e = .returned (.string (W (p * (t / g : Nat)))) ∧ Below v.heap.size v w' := fun v => mul_W _ _ v (by omega) (by simp only [Int.natAbs_natCast]; omega)
  have E5 : ∀ v : World, Calls Tryz.prog 93 #[.string (W q), .string (W ((r / g : Nat) : Int))] v fun e w' => e = .returned (.string (W (q * (r / g : Nat)))) ∧ Below v.heap.size v w' := fun v => mul_W _ _ v (by omega) (by simp only [Int.natAbs_natCast]; omega)
  have E6 : ∀ v : World, Calls Tryz.prog 95 #[.string (W (p * (t / g : Nat))), .string (W (q * (r / g : Nat)))] v fun e w' => e = .returned (.string (W m)) ∧ Below v.heap.size v w' := fun v => by rw [hm]; exact add_W _ _ v (by omega) (by omega)
  have E7 : ∀ v : World, Calls Tryz.prog 91 #[.string (W m)] v fun e w' => e = .returned (.string (S m.natAbs)) ∧ w' = v := fun v => sizeW m v (by omega)
  have E8 : ∀ v : World, Calls Tryz.prog 90 #[.string (S m.natAbs), .string (S g)] v fun e w' => e = .returned (.string (S k)) ∧ Below v.heap.size v w' := fun v => by rw [hk]; exact gcd_S _ _ v (by omega) (by omega)
  have E9 : ∀ v : World, Calls Tryz.prog 94 #[.string (W m), .string (S k)] v fun e w' => e = .returned (.string (W (m / (k : Int)))) ∧ Below v.heap.size v w' := fun v => short_W m k v (by omega) (by omega) k0 km
  have E10 : ∀ v : World, Calls Tryz.prog 94 #[.string (W (t : Int)), .string (S k)] v fun e w' => e = .returned (.string (W ((t / k : Nat) : Int))) ∧ Below v.heap.size v w' := fun v => shortN t k v (by omega) (by omega) k0 kt
  have E11 : ∀ v : World, Calls Tryz.prog 93 #[.string (W ((r / g : Nat) : Int)), .string (W ((t / k : Nat) : Int))] v fun e w' => e = .returned (.string (W (((r / g : Nat) : Int) * ((t / k : Nat) : Int)))) ∧ Below v.heap.size v w' := fun v => mul_W _ _ v (by simp only [Int.natAbs_natCast]; omega) (by simp only [Int.natAbs_natCast]; omega)
  clear hp hq hr ht hr0 ht0 hg hm hk g0 k0 gr gt kg km kt tg tk t1 t2 t3 n1 n2 n3
  generalize (((r / g : Nat) : Int) * ((t / k : Nat) : Int)) = D at *
  generalize (m / (k : Int)) = M at *
  generalize ((t / k : Nat) : Int) = tk at *
  generalize (p * ((t / g : Nat) : Int)) = A at *
  generalize (q * ((r / g : Nat) : Int)) = B at *
  generalize ((t / g : Nat) : Int) = tg at *
  generalize ((r / g : Nat) : Int) = rg at *
  generalize m.natAbs = mm at *
  generalize (r : Int) = R at *
  generalize (t : Int) = T at *
  obtain ⟨C, hC⟩ : ∃ C : World → Prop, C = fun v => Below (((w.alloc (.cells #[.string (W p), .string (W R)] 83)).alloc (.cells #[.string (W q), .string (W T)] 83)).alloc (.cells #[.string ⟨#[]⟩, .string ⟨#[]⟩] 83)).heap.size (((w.alloc (.cells #[.string (W p), .string (W R)] 83)).alloc (.cells #[.string (W q), .string (W T)] 83)).alloc (.cells #[.string ⟨#[]⟩, .string ⟨#[]⟩] 83)) v := ⟨_, rfl⟩
  have c0 : ∀ v, C v → v.cell? ⟨w.heap.size, 0, none⟩ = some (.string (W p)) := fun v h => by subst hC; exact (own3 h).1 0
  have c1 : ∀ v, C v → v.cell? ⟨w.heap.size, 1, none⟩ = some (.string (W R)) := fun v h => by subst hC; exact (own3 h).1 1
  have c2 : ∀ v, C v → v.cell? ⟨w.heap.size + 1, 0, none⟩ = some (.string (W q)) := fun v h => by subst hC; exact (own3 h).2.1 0
  have c3 : ∀ v, C v → v.cell? ⟨w.heap.size + 1, 1, none⟩ = some (.string (W T)) := fun v h => by subst hC; exact (own3 h).2.1 1
  have c4 : ∀ v, C v → v.cell? ⟨w.heap.size + 1 + 1, 0, none⟩ = some (.string ⟨#[]⟩) := fun v h => by subst hC; exact (own3 h).2.2.1 0
  have fc4 : ∀ v, C v → v.frozen? ⟨w.heap.size + 1 + 1, 0, none⟩ = false := fun v h => by subst hC; exact (own3 h).2.2.2.1 0
  have c5 : ∀ v, C v → v.cell? ⟨w.heap.size + 1 + 1, 1, none⟩ = some (.string ⟨#[]⟩) := fun v h => by subst hC; exact (own3 h).2.2.1 1
  have fc5 : ∀ v, C v → v.frozen? ⟨w.heap.size + 1 + 1, 1, none⟩ = false := fun v h => by subst hC; exact (own3 h).2.2.2.1 1
  have cB : ∀ v, C v → Below w.heap.size w v := fun v h => by subst hC; exact (own3 h).2.2.2.2
  have cT : ∀ u v, C u → Below u.heap.size u v → C v := fun u v h k => by subst hC; exact h.trans (k.mono h.size)
  have cD : ∀ v, C v → C v.drew := fun v h => by subst hC; exact h.drew
  have cI : C (((w.alloc (.cells #[.string (W p), .string (W R)] 83)).alloc (.cells #[.string (W q), .string (W T)] 83)).alloc (.cells #[.string ⟨#[]⟩, .string ⟨#[]⟩] 83)) := by subst hC; exact Below.refl _ _
  clear hC
  go_enter Tryz.func73, Tryz.ntmps73
  go_wp2_with fail
  refine (calm_call cT cI (E1 _)).mono ?_
  rintro e w1 ⟨rfl, C1⟩
  have k1 := c1 w1 C1
  go_wp2_with fail
  refine (calm_call cT C1 (E2 _)).mono ?_
  rintro e w2 ⟨rfl, C2⟩
  clear k1 C1
  go_wp2_with fail
  refine region_calm C (by kernel_rfl) (by kernel_rfl) (cD _ C2) ?_
  clear C2
  refine wpQuiet_step (fun K hK => ?_)
  go_simp
  refine ⟨_, fun v hv => rfl, hK _ ?_⟩
  clear hK K
  refine wpQuiet_step (fun K hK => ?_)
  go_simp
  refine ⟨.string (W p), fun v hv => ?_, hK _ ?_⟩
  · simp [c0 v hv]
  clear hK K
  refine wpQuiet_step (fun K hK => ?_)
  go_simp
  refine ⟨_, fun v hv => rfl, hK _ ?_⟩
  clear hK K
  refine wpQuiet_step (fun K hK => ?_)
  go_simp
  refine ⟨.string (W T), fun v hv => ?_, hK _ ?_⟩
  · simp [c3 v hv]
  clear hK K
  refine wpQuiet_step (fun K hK => ?_)
  go_simp
  refine ⟨_, fun v hv => rfl, hK _ ?_⟩
  clear hK K
  refine wpQuiet_step (fun K hK => ?_)
  go_simp
  refine ⟨.string (W tg), fun v hv => ?_, hK _ ?_⟩
  · exact calm_call cT hv (E3 v)
  clear hK K
  refine wpQuiet_step (fun K hK => ?_)
  go_simp
  refine ⟨.string (W A), fun v hv => ?_, hK _ ?_⟩
  · exact calm_call cT hv (E4 v)
  clear hK K
  refine wpQuiet_step (fun K hK => ?_)
  go_simp
  refine ⟨_, fun v hv => rfl, hK _ ?_⟩
  clear hK K
  refine wpQuiet_step (fun K hK => ?_)
  go_simp
  refine ⟨.string (W q), fun v hv => ?_, hK _ ?_⟩
  · simp [c2 v hv]
  clear hK K
  refine wpQuiet_step (fun K hK => ?_)
  go_simp
  refine ⟨_, fun v hv => rfl, hK _ ?_⟩
  clear hK K
  refine wpQuiet_step (fun K hK => ?_)
  go_simp
  refine ⟨.string (W B), fun v hv => ?_, hK _ ?_⟩
  · exact calm_call cT hv (E5 v)
  clear hK K
  refine wpQuiet_step (fun K hK => ?_)
  go_simp
  refine ⟨.string (W m), fun v hv => ?_, hK _ ?_⟩
  · exact calm_call cT hv (E6 v)
  clear hK K
  refine wpQuiet_step (fun K hK => ?_)
  go_simp
  refine ⟨_, fun v hv => rfl, hK _ ?_⟩
  clear hK K
  refine wpQuiet_nil ?_
  intro w3 C3
  go_wp2_with fail
  refine (E7 _).mono ?_
  rintro e w4 ⟨rfl, rfl⟩
  go_wp2_with fail
  refine (calm_call cT C3 (E8 _)).mono ?_
  rintro e w5 ⟨rfl, C5⟩
  clear C3
  go_wp2_with fail
  refine region_last 10 C (by kernel_rfl) (by kernel_rfl) (by kernel_rfl) (cD _ C5) ?_
  clear C5
  simp only [List.take_succ_cons, List.take_zero]
  refine wpQuiet_step (fun K hK => ?_)
  go_simp
  refine ⟨_, fun v hv => rfl, hK _ ?_⟩
  clear hK K
  refine wpQuiet_step (fun K hK => ?_)
  go_simp
  refine ⟨_, fun v hv => rfl, hK _ ?_⟩
  clear hK K
  refine wpQuiet_step (fun K hK => ?_)
  go_simp
  refine ⟨.string (W M), fun v hv => ?_, hK _ ?_⟩
  · exact calm_call cT hv (E9 v)
  clear hK K
  refine wpQuiet_step (fun K hK => ?_)
  go_simp
  refine ⟨_, fun v hv => rfl, hK _ ?_⟩
  clear hK K
  refine wpQuiet_step (fun K hK => ?_)
  go_simp
  refine ⟨_, fun v hv => rfl, hK _ ?_⟩
  clear hK K
  refine wpQuiet_step (fun K hK => ?_)
  go_simp
  refine ⟨.string (W T), fun v hv => ?_, hK _ ?_⟩
  · simp [c3 v hv]
  clear hK K
  refine wpQuiet_step (fun K hK => ?_)
  go_simp
  refine ⟨_, fun v hv => rfl, hK _ ?_⟩
  clear hK K
  refine wpQuiet_step (fun K hK => ?_)
  go_simp
  refine ⟨.string (W tk), fun v hv => ?_, hK _ ?_⟩
  · exact calm_call cT hv (E10 v)
  clear hK K
  refine wpQuiet_step (fun K hK => ?_)
  go_simp
  refine ⟨.string (W D), fun v hv => ?_, hK _ ?_⟩
  · exact calm_call cT hv (E11 v)
  clear hK K
  refine wpQuiet_step (fun K hK => ?_)
  go_simp
  refine ⟨_, fun v hv => rfl, hK _ ?_⟩
  clear hK K
  refine wpQuiet_nil ?_
  intro w6 C6
  have k4 := c4 w6 C6
  have k5 := c5 w6 C6
  have q4 := fc4 w6 C6
  have q5 := fc5 w6 C6
  have HB : Hid _ := cB w6 C6
  clear c0 c1 c2 c3 c4 c5 fc4 fc5 cB cT cD C6
  unfold wpOp
  simp only [List.getElem?_toArray, List.getElem?_cons_succ, List.getElem?_cons_zero]
  rw [if_pos (wanted_none rfl _)]
  refine Or.inl ?_
  go_simp
  go_wp2
  refine bodyPost_ret (v := .agg #[.string (W M), .string (W D)]) (by simp [results, Tryz.results73, go_sem, k4, k5]) rfl ⟨rfl, ?_⟩
  exact (HB.out.setCell (by simp; omega) _).setCell (by simp; omega) _

set_option maxHeartbeats 8000000 in
theorem product_raw (p q : Int) (r t g h : Nat) (w : World) (hp : tl p.natAbs ≤ 100000) (hq : tl q.natAbs ≤ 100000) (hr : tl r ≤ 100000) (ht : tl t ≤ 100000) (hr0 : r ≠ 0) (ht0 : t ≠ 0)
    (hg : g = p.natAbs.gcd t) (hh : h = q.natAbs.gcd r) :
    Calls Tryz.prog 72 #[.agg #[.string (W p), .string (W (r : Int))], .agg #[.string (W q), .string (W (t : Int))]] w fun e w' => e = .returned (.agg #[.string (W (p / (g : Int) * (q / (h : Int)))), .string (W (((r / h : Nat) : Int) * ((t / g : Nat) : Int)))]) ∧ Below w.heap.size w w' := by
  have g0 : g ≠ 0 := by rw [hg]; exact Nat.ne_of_gt (Nat.gcd_pos_of_pos_right _ (Nat.pos_of_ne_zero ht0))
  have h0 : h ≠ 0 := by rw [hh]; exact Nat.ne_of_gt (Nat.gcd_pos_of_pos_right _ (Nat.pos_of_ne_zero hr0))
  have gp : g ∣ p.natAbs := by rw [hg]; exact Nat.gcd_dvd_left _ _
  have gt : g ∣ t := by rw [hg]; exact Nat.gcd_dvd_right _ _
  have hq' : h ∣ q.natAbs := by rw [hh]; exact Nat.gcd_dvd_left _ _
  have hr' : h ∣ r := by rw [hh]; exact Nat.gcd_dvd_right _ _
  have tg : tl g ≤ 100000 := Nat.le_trans (tl_mono (Nat.le_of_dvd (Nat.pos_of_ne_zero ht0) gt)) ht
  have th : tl h ≤ 100000 := Nat.le_trans (tl_mono (Nat.le_of_dvd (Nat.pos_of_ne_zero hr0) hr')) hr
  have n1 : tl (p / (g : Int)).natAbs ≤ 100000 := Nat.le_trans (tl_mono (shorter_le g0 gp)) hp
  have n2 : tl (q / (h : Int)).natAbs ≤ 100000 := Nat.le_trans (tl_mono (shorter_le h0 hq')) hq
  have n3 : tl (r / h) ≤ 100000 := Nat.le_trans (tl_mono (Nat.div_le_self _ _)) hr
  have n4 : tl (t / g) ≤ 100000 := Nat.le_trans (tl_mono (Nat.div_le_self _ _)) ht
  have E1 : ∀ v : World, Calls Tryz.prog 91 #[.string (W p)] v fun e w' => e = .returned (.string (S p.natAbs)) ∧ Below v.heap.size v w' := fun v => calm_same (sizeW p v (by omega))
  have E2 : ∀ v : World, Calls Tryz.prog 90 #[.string (S p.natAbs), .string (W (t : Int))] v fun e w' => e = .returned (.string (S g)) ∧ Below v.heap.size v w' := fun v => by rw [hg]; exact gcd_SW _ t v (by omega) (by omega)
  have E3 : ∀ v : World, Calls Tryz.prog 91 #[.string (W q)] v fun e w' => e = .returned (.string (S q.natAbs)) ∧ Below v.heap.size v w' := fun v => calm_same (sizeW q v (by omega))
  have E4 : ∀ v : World, Calls Tryz.prog 90 #[.string (S q.natAbs), .string (W (r : Int))] v fun e w' => e = .returned (.string (S h)) ∧ Below v.heap.size v w' := fun v => by rw [hh]; exact gcd_SW _ r v (by omega) (by omega)
  have E5 : ∀ v : World, Calls Tryz.prog 94 #[.string (W p), .string (S g)] v fun e w' => e = .returned (.string (W (p / (g : Int)))) ∧ Below v.heap.size v w' := fun v => short_W p g v (by omega) (by omega) g0 gp
  have E6 : ∀ v : World, Calls Tryz.prog 94 #[.string (W q), .string (S h)] v fun e w' => e = .returned (.string (W (q / (h : Int)))) ∧ Below v.heap.size v w' := fun v => short_W q h v (by omega) (by omega) h0 hq'
  have E7 : ∀ v : World, Calls Tryz.prog 93 #[.string (W (p / (g : Int))), .string (W (q / (h : Int)))] v fun e w' => e = .returned (.string (W (p / (g : Int) * (q / (h : Int))))) ∧ Below v.heap.size v w' := fun v => mul_W _ _ v (by omega) (by omega)
  have E8 : ∀ v : World, Calls Tryz.prog 94 #[.string (W (r : Int)), .string (S h)] v fun e w' => e = .returned (.string (W ((r / h : Nat) : Int))) ∧ Below v.heap.size v w' := fun v => shortN r h v (by omega) (by omega) h0 hr'
  have E9 : ∀ v : World, Calls Tryz.prog 94 #[.string (W (t : Int)), .string (S g)] v fun e w' => e = .returned (.string (W ((t / g : Nat) : Int))) ∧ Below v.heap.size v w' := fun v => shortN t g v (by omega) (by omega) g0 gt
  have E10 : ∀ v : World, Calls Tryz.prog 93 #[.string (W ((r / h : Nat) : Int)), .string (W ((t / g : Nat) : Int))] v fun e w' => e = .returned (.string (W (((r / h : Nat) : Int) * ((t / g : Nat) : Int)))) ∧ Below v.heap.size v w' := fun v => mul_W _ _ v (by simp only [Int.natAbs_natCast]; omega) (by simp only [Int.natAbs_natCast]; omega)
  clear hp hq hr ht hr0 ht0 hg hh g0 h0 gp gt hq' hr' tg th n1 n2 n3 n4
  generalize (((r / h : Nat) : Int) * ((t / g : Nat) : Int)) = D at *
  generalize (p / (g : Int) * (q / (h : Int))) = M at *
  generalize (p / (g : Int)) = A at *
  generalize (q / (h : Int)) = B at *
  generalize ((t / g : Nat) : Int) = tg at *
  generalize ((r / h : Nat) : Int) = rh at *
  generalize p.natAbs = pp at *
  generalize q.natAbs = qq at *
  generalize (r : Int) = R at *
  generalize (t : Int) = T at *
  obtain ⟨C, hC⟩ : ∃ C : World → Prop, C = fun v => Below (((w.alloc (.cells #[.string (W p), .string (W R)] 83)).alloc (.cells #[.string (W q), .string (W T)] 83)).alloc (.cells #[.string ⟨#[]⟩, .string ⟨#[]⟩] 83)).heap.size (((w.alloc (.cells #[.string (W p), .string (W R)] 83)).alloc (.cells #[.string (W q), .string (W T)] 83)).alloc (.cells #[.string ⟨#[]⟩, .string ⟨#[]⟩] 83)) v := ⟨_, rfl⟩
  have c0 : ∀ v, C v → v.cell? ⟨w.heap.size, 0, none⟩ = some (.string (W p)) := fun v h => by subst hC; exact (own3 h).1 0
  have c1 : ∀ v, C v → v.cell? ⟨w.heap.size, 1, none⟩ = some (.string (W R)) := fun v h => by subst hC; exact (own3 h).1 1
  have c2 : ∀ v, C v → v.cell? ⟨w.heap.size + 1, 0, none⟩ = some (.string (W q)) := fun v h => by subst hC; exact (own3 h).2.1 0
  have c3 : ∀ v, C v → v.cell? ⟨w.heap.size + 1, 1, none⟩ = some (.string (W T)) := fun v h => by subst hC; exact (own3 h).2.1 1
  have c4 : ∀ v, C v → v.cell? ⟨w.heap.size + 1 + 1, 0, none⟩ = some (.string ⟨#[]⟩) := fun v h => by subst hC; exact (own3 h).2.2.1 0
  have fc4 : ∀ v, C v → v.frozen? ⟨w.heap.size + 1 + 1, 0, none⟩ = false := fun v h => by subst hC; exact (own3 h).2.2.2.1 0
  have c5 : ∀ v, C v → v.cell? ⟨w.heap.size + 1 + 1, 1, none⟩ = some (.string ⟨#[]⟩) := fun v h => by subst hC; exact (own3 h).2.2.1 1
  have fc5 : ∀ v, C v → v.frozen? ⟨w.heap.size + 1 + 1, 1, none⟩ = false := fun v h => by subst hC; exact (own3 h).2.2.2.1 1
  have cB : ∀ v, C v → Below w.heap.size w v := fun v h => by subst hC; exact (own3 h).2.2.2.2
  have cT : ∀ u v, C u → Below u.heap.size u v → C v := fun u v h k => by subst hC; exact h.trans (k.mono h.size)
  have cD : ∀ v, C v → C v.drew := fun v h => by subst hC; exact h.drew
  have cI : C (((w.alloc (.cells #[.string (W p), .string (W R)] 83)).alloc (.cells #[.string (W q), .string (W T)] 83)).alloc (.cells #[.string ⟨#[]⟩, .string ⟨#[]⟩] 83)) := by subst hC; exact Below.refl _ _
  clear hC
  go_enter Tryz.func72, Tryz.ntmps72
  go_wp2_with fail
  refine region_calm C (by kernel_rfl) (by kernel_rfl) (cD _ cI) ?_
  clear cI
  refine wpQuiet_step (fun K hK => ?_)
  go_simp
  refine ⟨_, fun v hv => rfl, hK _ ?_⟩
  clear hK K
  refine wpQuiet_step (fun K hK => ?_)
  go_simp
  refine ⟨.string (W p), fun v hv => ?_, hK _ ?_⟩
  · simp [c0 v hv]
  clear hK K
  refine wpQuiet_step (fun K hK => ?_)
  go_simp
  refine ⟨.string (S pp), fun v hv => ?_, hK _ ?_⟩
  · exact calm_call cT hv (E1 v)
  clear hK K
  refine wpQuiet_step (fun K hK => ?_)
  go_simp
  refine ⟨_, fun v hv => rfl, hK _ ?_⟩
  clear hK K
  refine wpQuiet_step (fun K hK => ?_)
  go_simp
  refine ⟨.string (W T), fun v hv => ?_, hK _ ?_⟩
  · simp [c3 v hv]
  clear hK K
  refine wpQuiet_step (fun K hK => ?_)
  go_simp
  refine ⟨.string (S g), fun v hv => ?_, hK _ ?_⟩
  · exact calm_call cT hv (E2 v)
  clear hK K
  refine wpQuiet_step (fun K hK => ?_)
  go_simp
  refine ⟨_, fun v hv => rfl, hK _ ?_⟩
  clear hK K
  refine wpQuiet_nil ?_
  intro w1 C1
  go_wp2_with fail
  refine region_calm C (by kernel_rfl) (by kernel_rfl) (cD _ C1) ?_
  clear C1
  refine wpQuiet_step (fun K hK => ?_)
  go_simp
  refine ⟨_, fun v hv => rfl, hK _ ?_⟩
  clear hK K
  refine wpQuiet_step (fun K hK => ?_)
  go_simp
  refine ⟨.string (W q), fun v hv => ?_, hK _ ?_⟩
  · simp [c2 v hv]
  clear hK K
  refine wpQuiet_step (fun K hK => ?_)
  go_simp
  refine ⟨.string (S qq), fun v hv => ?_, hK _ ?_⟩
  · exact calm_call cT hv (E3 v)
  clear hK K
  refine wpQuiet_step (fun K hK => ?_)
  go_simp
  refine ⟨_, fun v hv => rfl, hK _ ?_⟩
  clear hK K
  refine wpQuiet_step (fun K hK => ?_)
  go_simp
  refine ⟨.string (W R), fun v hv => ?_, hK _ ?_⟩
  · simp [c1 v hv]
  clear hK K
  refine wpQuiet_step (fun K hK => ?_)
  go_simp
  refine ⟨.string (S h), fun v hv => ?_, hK _ ?_⟩
  · exact calm_call cT hv (E4 v)
  clear hK K
  refine wpQuiet_step (fun K hK => ?_)
  go_simp
  refine ⟨_, fun v hv => rfl, hK _ ?_⟩
  clear hK K
  refine wpQuiet_nil ?_
  intro w2 C2
  go_wp2_with fail
  refine region_last 19 C (by kernel_rfl) (by kernel_rfl) (by kernel_rfl) (cD _ C2) ?_
  clear C2
  simp only [List.take_succ_cons, List.take_zero]
  refine wpQuiet_step (fun K hK => ?_)
  go_simp
  refine ⟨_, fun v hv => rfl, hK _ ?_⟩
  clear hK K
  refine wpQuiet_step (fun K hK => ?_)
  go_simp
  refine ⟨.string (W p), fun v hv => ?_, hK _ ?_⟩
  · simp [c0 v hv]
  clear hK K
  refine wpQuiet_step (fun K hK => ?_)
  go_simp
  refine ⟨_, fun v hv => rfl, hK _ ?_⟩
  clear hK K
  refine wpQuiet_step (fun K hK => ?_)
  go_simp
  refine ⟨.string (W A), fun v hv => ?_, hK _ ?_⟩
  · exact calm_call cT hv (E5 v)
  clear hK K
  refine wpQuiet_step (fun K hK => ?_)
  go_simp
  refine ⟨_, fun v hv => rfl, hK _ ?_⟩
  clear hK K
  refine wpQuiet_step (fun K hK => ?_)
  go_simp
  refine ⟨.string (W q), fun v hv => ?_, hK _ ?_⟩
  · simp [c2 v hv]
  clear hK K
  refine wpQuiet_step (fun K hK => ?_)
  go_simp
  refine ⟨_, fun v hv => rfl, hK _ ?_⟩
  clear hK K
  refine wpQuiet_step (fun K hK => ?_)
  go_simp
  refine ⟨.string (W B), fun v hv => ?_, hK _ ?_⟩
  · exact calm_call cT hv (E6 v)
  clear hK K
  refine wpQuiet_step (fun K hK => ?_)
  go_simp
  refine ⟨.string (W M), fun v hv => ?_, hK _ ?_⟩
  · exact calm_call cT hv (E7 v)
  clear hK K
  refine wpQuiet_step (fun K hK => ?_)
  go_simp
  refine ⟨_, fun v hv => rfl, hK _ ?_⟩
  clear hK K
  refine wpQuiet_step (fun K hK => ?_)
  go_simp
  refine ⟨.string (W R), fun v hv => ?_, hK _ ?_⟩
  · simp [c1 v hv]
  clear hK K
  refine wpQuiet_step (fun K hK => ?_)
  go_simp
  refine ⟨_, fun v hv => rfl, hK _ ?_⟩
  clear hK K
  refine wpQuiet_step (fun K hK => ?_)
  go_simp
  refine ⟨.string (W rh), fun v hv => ?_, hK _ ?_⟩
  · exact calm_call cT hv (E8 v)
  clear hK K
  refine wpQuiet_step (fun K hK => ?_)
  go_simp
  refine ⟨_, fun v hv => rfl, hK _ ?_⟩
  clear hK K
  refine wpQuiet_step (fun K hK => ?_)
  go_simp
  refine ⟨.string (W T), fun v hv => ?_, hK _ ?_⟩
  · simp [c3 v hv]
  clear hK K
  refine wpQuiet_step (fun K hK => ?_)
  go_simp
  refine ⟨_, fun v hv => rfl, hK _ ?_⟩
  clear hK K
  refine wpQuiet_step (fun K hK => ?_)
  go_simp
  refine ⟨.string (W tg), fun v hv => ?_, hK _ ?_⟩
  · exact calm_call cT hv (E9 v)
  clear hK K
  refine wpQuiet_step (fun K hK => ?_)
  go_simp
  refine ⟨.string (W D), fun v hv => ?_, hK _ ?_⟩
  · exact calm_call cT hv (E10 v)
  clear hK K
  refine wpQuiet_step (fun K hK => ?_)
  go_simp
  refine ⟨_, fun v hv => rfl, hK _ ?_⟩
  clear hK K
  refine wpQuiet_nil ?_
  intro w6 C6
  have k4 := c4 w6 C6
  have k5 := c5 w6 C6
  have q4 := fc4 w6 C6
  have q5 := fc5 w6 C6
  have HB : Hid _ := cB w6 C6
  clear c0 c1 c2 c3 c4 c5 fc4 fc5 cB cT cD C6
  unfold wpOp
  simp only [List.getElem?_toArray, List.getElem?_cons_succ, List.getElem?_cons_zero]
  rw [if_pos (wanted_none rfl _)]
  refine Or.inl ?_
  go_simp
  go_wp2
  refine bodyPost_ret (v := .agg #[.string (W M), .string (W D)]) (by simp [results, Tryz.results72, go_sem, k4, k5]) rfl ⟨rfl, ?_⟩
  exact (HB.out.setCell (by simp; omega) _).setCell (by simp; omega) _
end
end Go.Proofs.YtjkobbpebnkimaaGreatDoor
namespace Go.Proofs.YtjkobbpebnkimaaGreatDoor
section
set_option maxRecDepth 100000
open Go.RowKit Nm
set_option linter.unusedVariables false

theorem sum_R (a b : Rat) (w : World) (ha : Bd a 100000) (hb : Bd b 100000) :
    Calls Tryz.prog 73 #[fr a, fr b] w fun e w' => e = .returned (fr (a + b)) ∧ Below w.heap.size w w' := by
  have h := sum_raw a.num b.num a.den b.den _ _ _ w ha.1 hb.1 ha.2 hb.2 a.den_nz b.den_nz rfl rfl rfl
  have e := sum_both a b
  unfold above at e
  rw [← e.1, ← Int.natCast_mul, ← e.2, W_nat, W_nat, W_nat] at h
  exact h
theorem product_R (a b : Rat) (w : World) (ha : Bd a 100000) (hb : Bd b 100000) :
    Calls Tryz.prog 72 #[fr a, fr b] w fun e w' => e = .returned (fr (a * b)) ∧ Below w.heap.size w w' := by
  have h := product_raw a.num b.num a.den b.den _ _ w ha.1 hb.1 ha.2 hb.2 a.den_nz b.den_nz rfl rfl
  rw [← prod_num a b, ← Int.natCast_mul, ← prod_den a b, W_nat, W_nat, W_nat] at h
  exact h

set_option maxHeartbeats 4000000 in
theorem difference_raw (X1 X2 Y1 Y2 N1 N2 D1 D2 : ByteArray) (w : World)
    (E1 : ∀ v : World, Calls Tryz.prog 98 #[.agg #[.string Y1, .string Y2]] v fun e w' => e = .returned (.agg #[.string N1, .string N2]) ∧ Below v.heap.size v w')
    (E2 : ∀ v : World, Calls Tryz.prog 73 #[.agg #[.string X1, .string X2], .agg #[.string N1, .string N2]] v fun e w' => e = .returned (.agg #[.string D1, .string D2]) ∧ Below v.heap.size v w') :
    Calls Tryz.prog 86 #[.agg #[.string X1, .string X2], .agg #[.string Y1, .string Y2]] w fun e w' => e = .returned (.agg #[.string D1, .string D2]) ∧ Below w.heap.size w w' := by
  obtain ⟨C, hC⟩ : ∃ C : World → Prop, C = fun v => Below (((w.alloc (.cells #[.string X1, .string X2] 83)).alloc (.cells #[.string Y1, .string Y2] 83)).alloc (.cells #[.string ⟨#[]⟩, .string ⟨#[]⟩] 83)).heap.size (((w.alloc (.cells #[.string X1, .string X2] 83)).alloc (.cells #[.string Y1, .string Y2] 83)).alloc (.cells #[.string ⟨#[]⟩, .string ⟨#[]⟩] 83)) v := ⟨_, rfl⟩
  have c0 : ∀ v, C v → v.cell? ⟨w.heap.size, 0, none⟩ = some (.string X1) := fun v h => by subst hC; exact (own3 h).1 0
  have c1 : ∀ v, C v → v.cell? ⟨w.heap.size, 1, none⟩ = some (.string X2) := fun v h => by subst hC; exact (own3 h).1 1
  have c2 : ∀ v, C v → v.cell? ⟨w.heap.size + 1, 0, none⟩ = some (.string Y1) := fun v h => by subst hC; exact (own3 h).2.1 0
  have c3 : ∀ v, C v → v.cell? ⟨w.heap.size + 1, 1, none⟩ = some (.string Y2) := fun v h => by subst hC; exact (own3 h).2.1 1
  have c4 : ∀ v, C v → v.cell? ⟨w.heap.size + 1 + 1, 0, none⟩ = some (.string ⟨#[]⟩) := fun v h => by subst hC; exact (own3 h).2.2.1 0
  have c5 : ∀ v, C v → v.cell? ⟨w.heap.size + 1 + 1, 1, none⟩ = some (.string ⟨#[]⟩) := fun v h => by subst hC; exact (own3 h).2.2.1 1
  have fc4 : ∀ v, C v → v.frozen? ⟨w.heap.size + 1 + 1, 0, none⟩ = false := fun v h => by subst hC; exact (own3 h).2.2.2.1 0
  have fc5 : ∀ v, C v → v.frozen? ⟨w.heap.size + 1 + 1, 1, none⟩ = false := fun v h => by subst hC; exact (own3 h).2.2.2.1 1
  have cB : ∀ v, C v → Below w.heap.size w v := fun v h => by subst hC; exact (own3 h).2.2.2.2
  have cT : ∀ u v, C u → Below u.heap.size u v → C v := fun u v h k => by subst hC; exact h.trans (k.mono h.size)
  have cD : ∀ v, C v → C v.drew := fun v h => by subst hC; exact h.drew
  have cI : C (((w.alloc (.cells #[.string X1, .string X2] 83)).alloc (.cells #[.string Y1, .string Y2] 83)).alloc (.cells #[.string ⟨#[]⟩, .string ⟨#[]⟩] 83)) := by subst hC; exact Below.refl _ _
  clear hC
  go_enter Tryz.func86, Tryz.ntmps86
  go_wp2_with fail
  refine region_last 4 C (by kernel_rfl) (by kernel_rfl) (by kernel_rfl) (cD _ cI) ?_
  clear cI
  simp only [List.take_succ_cons, List.take_zero]
  refine wpQuiet_step (fun K hK => ?_)
  go_simp
  refine ⟨.agg #[.string X1, .string X2], fun v hv => ?_, hK _ ?_⟩
  · simp [c0 v hv, c1 v hv]
  clear hK K
  refine wpQuiet_step (fun K hK => ?_)
  go_simp
  refine ⟨.agg #[.string Y1, .string Y2], fun v hv => ?_, hK _ ?_⟩
  · simp [c2 v hv, c3 v hv]
  clear hK K
  refine wpQuiet_step (fun K hK => ?_)
  go_simp
  refine ⟨.agg #[.string N1, .string N2], fun v hv => ?_, hK _ ?_⟩
  · exact calm_call cT hv (E1 v)
  clear hK K
  refine wpQuiet_step (fun K hK => ?_)
  go_simp
  refine ⟨.agg #[.string D1, .string D2], fun v hv => ?_, hK _ ?_⟩
  · exact calm_call cT hv (E2 v)
  clear hK K
  refine wpQuiet_nil ?_
  intro w6 C6
  have k4 := c4 w6 C6
  have k5 := c5 w6 C6
  have q4 := fc4 w6 C6
  have q5 := fc5 w6 C6
  have HB : Hid _ := cB w6 C6
  clear c0 c1 c2 c3 c4 c5 fc4 fc5 cB cT cD C6
  unfold wpOp
  simp only [List.getElem?_toArray, List.getElem?_cons_succ, List.getElem?_cons_zero]
  rw [if_pos (wanted_none rfl _)]
  refine Or.inl ?_
  go_simp
  go_wp2
  refine bodyPost_ret (v := .agg #[.string D1, .string D2]) (by simp [results, Tryz.results86, go_sem, k4, k5]) rfl ⟨rfl, ?_⟩
  exact (HB.out.setCell (by simp; omega) _).setCell (by simp; omega) _

theorem difference_R (a b : Rat) (w : World) (ha : Bd a 100000) (hb : Bd b 100000) :
    Calls Tryz.prog 86 #[fr a, fr b] w fun e w' => e = .returned (fr (a - b)) ∧ Below w.heap.size w w' := by
  have h := difference_raw (W a.num) (S a.den) (W b.num) (S b.den) (W (-b).num) (S (-b).den) (W (a + -b).num) (S (a + -b).den) w
    (fun v => negated_R b v (hb.mono (by omega))) (fun v => sum_R a (-b) v ha hb.neg)
  rw [Rat.sub_eq_add_neg]; exact h
end
end Go.Proofs.YtjkobbpebnkimaaGreatDoor
