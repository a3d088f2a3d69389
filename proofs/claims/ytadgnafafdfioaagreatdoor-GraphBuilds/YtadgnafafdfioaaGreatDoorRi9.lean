/-
  THE WORDS BEHIND =, WHATEVER THEY ARE. Conditions: each theorem's own.
-/
import Derived.Test.YtadgnafafdfioaaGreatDoorRh9
namespace Go.Proofs.YtadgnafafdfioaaGreatDoor.Rd
set_option maxRecDepth 100000
open Go.RowKit Nm
set_option linter.unusedVariables false
set_option linter.unusedSimpArgs false

/-- what is told of an operation with what stands behind its names -/
def Ff (w' : World) (B : Nat) (a1 : Option Addr) (m1 c1 : Nat) (o : Option Sm) (e : Ending) : Prop :=
  match o with
  | none => e = .returned (.tuple #[zv, .bool false])
  | some s => ∃ a2 m2 c2, e = .returned (.tuple #[sv s.name s.op (.slice a1 m1 c1) (.slice a2 m2 c2) s.k s.n nils, .bool true]) ∧ Od w' B (.slice a2 m2 c2) s.dims
theorem fin_data {name op : ByteArray} {args rest : List ByteArray} {s : Sm} (h : fin name op args rest = some s) : s.data = [] := by
  unfold fin at h
  split at h
  · cases hd : dms rest with
    | none => simp [hd] at h
    | some d => simp [hd] at h; subst h; rfl
  · split at h
    · split at h
      · split at h
        · cases h; rfl
        · cases h
      · cases h
    · split at h
      · split at h
        · split at h
          · split at h
            · cases h; rfl
            · cases h
          · cases h
        · cases h
      · split at h
        · cases h; rfl
        · cases h
theorem fin_1 {name op : ByteArray} {args rest : List ByteArray} (h : isw op lScale = true) : fin name op args rest = match rest with | [x] => if ra x then some ⟨name, op, args, [], x, 0, []⟩ else none | _ => none := by
  unfold fin
  rw [show knd op = 1 by rw [isw_eq h]; decide, if_neg (by decide), if_pos rfl]
  match rest with
  | [] => rfl
  | [x] => rfl
  | x :: y :: l => rfl
theorem fin_2 {name op : ByteArray} {args rest : List ByteArray} (h : isw op lPower = true) : fin name op args rest = match rest with | [x] => (match num x.data.toList with | some n => if n ≤ 6 then some ⟨name, op, args, [], em, n, []⟩ else none | none => none) | _ => none := by
  unfold fin
  rw [show knd op = 2 by rw [isw_eq h]; decide, if_neg (by decide), if_neg (by decide), if_pos rfl]
  match rest with
  | [] => rfl
  | [x] => rfl
  | x :: y :: l => rfl
theorem fin_3 {name op : ByteArray} {args rest : List ByteArray} (h : isw op lReshape = true ∨ isw op lSpread = true) : fin name op args rest = (dms rest).map fun d => ⟨name, op, args, d, em, 0, []⟩ := by
  unfold fin
  rw [show knd op = 3 by rcases h with h | h <;> (rw [isw_eq h]; decide), if_pos rfl]
theorem fin_0 {name op : ByteArray} {args rest : List ByteArray} (h0 : isw op lScale = false) (h1 : isw op lPower = false) (h2 : isw op lReshape = false) (h3 : isw op lSpread = false) : fin name op args rest = if rest = [] then some ⟨name, op, args, [], em, 0, []⟩ else none := by
  unfold fin
  rw [show knd op = 0 by unfold knd; rw [h0, h1, h2, h3]; rfl, if_neg (by decide), if_neg (by decide), if_neg (by decide)]

theorem finished_any (name op : ByteArray) (args : List ByteArray) (a1 : Option Addr) (m1 c1 : Nat) (bo : Option Addr) (rest : List ByteArray) (d : Nat) (aF aZ : Addr) (w : World) (hE : Er w aF aZ) (hR : Row w bo (txts rest)) (hs : ∀ x ∈ rest, x.size ≤ 200000) :
    Calls Tryz.prog 78 #[sv name op (.slice a1 m1 c1) nils em 0 nils, .slice bo rest.length d] w fun e w' => Ff w' w.heap.size a1 m1 c1 (fin name op args rest) e ∧ Below w.heap.size w w' := by
  have nilO : ∀ w', Od w' w.heap.size (.slice none 0 0) [] := fun w' => Od.nil _ _
  cases h3 : isw op lReshape || isw op lSpread with
  | true =>
    have h3' : isw op lReshape = true ∨ isw op lSpread = true := by simpa using h3
    rw [fin_3 h3']
    have hop : op = ⟨lReshape.toArray⟩ ∨ op = ⟨lSpread.toArray⟩ := by
      rcases h3' with h | h
      · exact Or.inl (isw_eq h)
      · exact Or.inr (isw_eq h)
    cases hd : dms rest with
    | none =>
      obtain ⟨e1, e2⟩ := dm_no hd
      have := fin_dims name op hop a1 m1 c1 bo rest d w hR false [] e1 e2
      refine this.mono ?_
      rintro e w' ⟨h1, h2⟩
      exact ⟨h1, h2⟩
    | some dv =>
      obtain ⟨e1, e2⟩ := dm_yes hd
      have := fin_dims name op hop a1 m1 c1 bo rest d w hR true dv e1 e2
      refine this.mono ?_
      rintro e w' ⟨h1, h2⟩
      obtain ⟨ud, rfl, hO⟩ := h1
      obtain ⟨ao, cap, rfl, _⟩ := hO.form
      exact ⟨⟨_, _, _, rfl, hO⟩, h2⟩
  | false =>
    rw [Bool.or_eq_false_iff] at h3
    cases h1 : isw op lScale with
    | true =>
      rw [fin_1 h1]
      obtain rfl := isw_eq h1
      match rest, hR, hs with
      | [], _, _ =>
        exact (fin_long name _ (Or.inl rfl) a1 m1 c1 bo 0 d w (by decide)).mono fun e w' h => h
      | [x], hR, hs =>
        obtain ⟨b, off, rfl, hc⟩ := hR 0 (.string x) rfl
        rw [Nat.add_zero] at hc
        obtain ⟨r, hr⟩ : ∃ r, ra x = r := ⟨_, rfl⟩
        refine (fin_scale name a1 m1 c1 b off x d aF aZ w hE (hs x (by simp)) hc r hr).mono ?_
        rintro e w' ⟨rfl, h2⟩
        refine ⟨?_, h2⟩
        show Ff _ _ _ _ _ (if ra x = true then _ else _) _
        rw [hr]
        cases r with
        | true => exact ⟨none, 0, 0, rfl, nilO _⟩
        | false => rfl
      | x :: y :: l, _, _ =>
        exact (fin_long name _ (Or.inl rfl) a1 m1 c1 bo (x :: y :: l).length d w (by simp; omega)).mono fun e w' h => h
    | false =>
      cases h2 : isw op lPower with
      | true =>
        rw [fin_2 h2]
        obtain rfl := isw_eq h2
        match rest, hR, hs with
        | [], _, _ =>
          exact (fin_long name _ (Or.inr rfl) a1 m1 c1 bo 0 d w (by decide)).mono fun e w' h => h
        | [x], hR, hs =>
          obtain ⟨b, off, rfl, hc⟩ := hR 0 (.string x) rfl
          rw [Nat.add_zero] at hc
          cases hn : num x.data.toList with
          | none =>
            obtain ⟨e1, e2⟩ := numv_no hn
            refine (fin_power name a1 m1 c1 b off x d w hc 0 false true e1 e2 (by decide)).mono ?_
            rintro e w' ⟨rfl, h2⟩
            refine ⟨?_, h2⟩
            show Ff _ _ _ _ _ (match num x.data.toList with | some n => _ | none => _) _
            rw [hn]
            rfl
          | some v =>
            obtain ⟨e1, e2⟩ := numv_of hn
            obtain ⟨t, ht⟩ : ∃ t, decide (v ≤ 6) = t := ⟨_, rfl⟩
            refine (fin_power name a1 m1 c1 b off x d w hc v true t e1 e2 ht).mono ?_
            rintro e w' ⟨rfl, h2⟩
            refine ⟨?_, h2⟩
            show Ff _ _ _ _ _ (match num x.data.toList with | some n => _ | none => _) _
            rw [hn]
            show Ff _ _ _ _ _ (if v ≤ 6 then _ else _) _
            cases t with
            | true =>
              rw [if_pos (of_decide_eq_true ht)]
              exact ⟨none, 0, 0, rfl, nilO _⟩
            | false =>
              rw [if_neg (of_decide_eq_false ht)]
              rfl
        | x :: y :: l, _, _ =>
          exact (fin_long name _ (Or.inr rfl) a1 m1 c1 bo (x :: y :: l).length d w (by simp; omega)).mono fun e w' h => h
      | false =>
        rw [fin_0 h1 h2 h3.1 h3.2]
        cases rest with
        | nil =>
          refine (fin_plain name op a1 m1 c1 bo 0 d w h1 h2 h3.1 h3.2 true (by decide)).mono ?_
          rintro e w' ⟨rfl, h⟩
          exact ⟨⟨none, 0, 0, rfl, nilO _⟩, h⟩
        | cons x l =>
          refine (fin_plain name op a1 m1 c1 bo (x :: l).length d w h1 h2 h3.1 h3.2 false (by simp; omega)).mono ?_
          rintro e w' ⟨rfl, h⟩
          exact ⟨rfl, h⟩

theorem row_ad {w : World} {b off c : Nat} {op : ByteArray} {parts : List ByteArray} (h : Row w (some ⟨b, off, none⟩) (txts (op :: parts))) (hc : (op :: parts).length ≤ c) {A : Addr} (hA : Ad b off c A) : Row w (some A) (txts parts) := by
  unfold Ad at hA
  by_cases q : c = 1
  · have : parts = [] := by
      simp only [List.length_cons] at hc
      exact List.eq_nil_of_length_eq_zero (by omega)
    subst this
    exact Row.nil _ _
  · rw [if_neg q] at hA
    cases hA
    exact Row.drop' h 1
theorem row_ae {w : World} {b off c k : Nat} {op : ByteArray} {parts : List ByteArray} (h : Row w (some ⟨b, off, none⟩) (txts (op :: parts))) (hc : (op :: parts).length ≤ c) (hk : k ≤ parts.length) {A : Addr} (hA : Ae b off c k A) : Row w (some A) (txts (parts.drop k)) := by
  obtain ⟨o1, h1, h2⟩ := hA
  have hr := row_ad h hc h1
  by_cases q : c = k + 1
  · have : parts.drop k = [] := List.drop_eq_nil_of_le (by simp only [List.length_cons] at hc; omega)
    rw [this]
    exact Row.nil _ _
  · rw [if_neg q] at h2
    cases h2
    rw [← txts_drop]
    exact Row.drop' hr k
theorem ari_le (x : ByteArray) : ari x = 0 ∨ ari x = 1 ∨ ari x = 2 := by
  unfold ari
  split
  · exact Or.inr (Or.inr rfl)
  · split
    · exact Or.inr (Or.inl rfl)
    · exact Or.inl rfl
theorem opn_no {name op : ByteArray} {parts : List ByteArray} (h : ¬ (nmb name = true ∧ ari op ≠ 0 ∧ ari op ≤ parts.length ∧ (parts.take (ari op)).all nmb = true)) : opn name (op :: parts) = none := by rw [opn_cons, if_neg h]

theorem operation_any (name : ByteArray) (ws : List ByteArray) (ao : Option Addr) (c : Nat) (aF aZ : Addr) (w : World) (hE : Er w aF aZ) (hR : Row w ao (txts ws)) (hl : ws.length ≤ 1000000) (hcap : ws.length ≤ c) (hcm : c ≤ maxLen) (hs : ∀ x ∈ ws, x.size ≤ 200000) :
    Calls Tryz.prog 60 #[.string name, .slice ao ws.length c] w fun e w' => Fo w' w.heap.size (opn name ws) e ∧ Below w.heap.size w w' := by
  cases hn : nmb name with
  | false =>
    have e0 : opn name ws = none := by
      cases ws with
      | nil => rfl
      | cons op parts => exact opn_no (fun h => by rw [hn] at h; cases h.1)
    rw [e0]
    exact (op_name name ao ws.length c w hn).mono fun e w' h => h
  | true =>
    cases ws with
    | nil => exact (op_empty name ao c w hn).mono fun e w' h => h
    | cons op parts =>
      obtain ⟨b, off, rfl, hc⟩ := hR 0 (.string op) rfl
      rw [Nat.add_zero] at hc
      have hl' : parts.length ≤ 1000000 := by simp only [List.length_cons] at hl; omega
      have hcap' : parts.length + 1 ≤ c := hcap
      have hsp : ∀ k, ∀ x ∈ parts.drop k, x.size ≤ 200000 := fun k x hx => hs x (List.mem_cons_of_mem _ (List.mem_of_mem_drop hx))
      by_cases h0 : ari op = 0
      · rw [opn_no (fun h => h.2.1 h0)]
        exact (op_none name op b off parts.length c w hn hl' hcap' hcm hc h0).mono fun e w' h => h
      · by_cases hsh : ari op ≤ parts.length
        · have HM : ∀ k, k ≤ parts.length → ∀ r, (parts.take k).all nmb = r → ∀ A, Ad b off c A → ∀ v, Below w.heap.size w v → Calls Tryz.prog 77 #[.slice (some A) k (c - 1), .func (.func 49) #[] #[]] v fun e w' => e = .returned (.bool r) ∧ w' = v := by
            intro k hk r hr A hA v hv
            have hlen : (parts.take k).length = k := by rw [List.length_take]; omega
            have := allName_any (some A) (parts.take k) (c - 1) v (by omega) (by rw [← txts_take]; exact Row.take' ((row_ad hR hcap hA).below hv) k)
            rw [hlen, hr] at this
            exact this
          have HC : ∀ k, k ≤ parts.length → ∀ A, Ad b off c A → ∀ v, Below w.heap.size w v → Calls Tryz.prog 66 #[.slice (some A) k (c - 1)] v fun e w' => ∃ u, e = .returned u ∧ w'.ownsRow v.heap.size 9 1 u (parts.take k).length (txts (parts.take k)) ∧ Below v.heap.size v w' := by
            intro k hk A hA v hv
            have hlen : (parts.take k).length = k := by rw [List.length_take]; omega
            have := clone_any (some A) (parts.take k) (c - 1) v (by omega) (by rw [← txts_take]; exact Row.take' ((row_ad hR hcap hA).below hv) k)
            rw [hlen] at this ⊢
            exact this
          have HF : ∀ k, k ≤ parts.length → ∀ A, Ae b off c k A → ∀ a1 c1 v, Below w.heap.size w v → Calls Tryz.prog 78 #[sv name op (.slice a1 k c1) nils em 0 nils, .slice (some A) (parts.length - k) (c - 1 - k)] v fun e w' => Ff w' v.heap.size a1 k c1 (fin name op (parts.take k) (parts.drop k)) e ∧ Below v.heap.size v w' := by
            intro k hk A hA a1 c1 v hv
            have := finished_any name op (parts.take k) a1 k c1 (some A) (parts.drop k) (c - 1 - k) aF aZ v (hE.below hv) ((row_ae hR hcap hk hA).below hv) (hsp k)
            rw [List.length_drop] at this
            exact this
          cases hall : (parts.take (ari op)).all nmb with
          | false =>
            rw [opn_no (fun h => by rw [hall] at h; cases h.2.2.2)]
            rcases ari_le op with h | h | h
            · exact absurd h h0
            · rw [h] at hsh hall
              exact (op_names1 name op b off parts.length c w hn hl' hcap' hcm hc h hsh (HM 1 hsh false hall)).mono fun e w' h => h
            · rw [h] at hsh hall
              exact (op_names2 name op b off parts.length c w hn hl' hcap' hcm hc h hsh (HM 2 hsh false hall)).mono fun e w' h => h
          | true =>
            rw [opn_cons, if_pos ⟨hn, h0, hsh, hall⟩]
            cases hf : fin name op (parts.take (ari op)) (parts.drop (ari op)) with
            | none =>
              rcases ari_le op with h | h | h
              · exact absurd h h0
              · rw [h] at hsh hall hf
                exact (op_no1 name op b off parts.length c w hn hl' hcap' hcm hc h hsh (HM 1 hsh true hall) (parts.take 1) (by rw [List.length_take]; omega) (HC 1 hsh) (fun A hA a1 c1 v hv => by have := HF 1 hsh A hA a1 c1 v hv; rw [hf] at this; exact this)).mono fun e w' h => h
              · rw [h] at hsh hall hf
                exact (op_no2 name op b off parts.length c w hn hl' hcap' hcm hc h hsh (HM 2 hsh true hall) (parts.take 2) (by rw [List.length_take]; omega) (HC 2 hsh) (fun A hA a1 c1 v hv => by have := HF 2 hsh A hA a1 c1 v hv; rw [hf] at this; exact this)).mono fun e w' h => h
            | some s =>
              have hsa := (fin_name hf).2.2
              have hsd := fin_data hf
              rcases ari_le op with h | h | h
              · exact absurd h h0
              · rw [h] at hsh hall hf hsa
                exact (op_yes1 name op b off parts.length c w hn hl' hcap' hcm hc h hsh (HM 1 hsh true hall) (parts.take 1) (by rw [List.length_take]; omega) (HC 1 hsh) s hsa hsd (fun A hA a1 c1 v hv => by
                  have := HF 1 hsh A hA a1 c1 v hv
                  rw [hf] at this
                  refine this.mono ?_
                  rintro e w' ⟨⟨a2, m2, c2, h1, h2⟩, h3⟩
                  exact ⟨a2, m2, c2, h1, h2, h3⟩)).mono fun e w' h => h
              · rw [h] at hsh hall hf hsa
                exact (op_yes2 name op b off parts.length c w hn hl' hcap' hcm hc h hsh (HM 2 hsh true hall) (parts.take 2) (by rw [List.length_take]; omega) (HC 2 hsh) s hsa hsd (fun A hA a1 c1 v hv => by
                  have := HF 2 hsh A hA a1 c1 v hv
                  rw [hf] at this
                  refine this.mono ?_
                  rintro e w' ⟨⟨a2, m2, c2, h1, h2⟩, h3⟩
                  exact ⟨a2, m2, c2, h1, h2, h3⟩)).mono fun e w' h => h
        · rw [opn_no (fun h => hsh h.2.2.1)]
          rcases ari_le op with h | h | h
          · exact absurd h h0
          · exact (op_short1 name op b off parts.length c w hn hl' hcap' hcm hc h (by omega)).mono fun e w' h => h
          · exact (op_short2 name op b off parts.length c w hn hl' hcap' hcm hc h (by omega)).mono fun e w' h => h
end Go.Proofs.YtadgnafafdfioaaGreatDoor.Rd
