/-
  Infer OF THE PROGRAM. Conditions: each theorem's own.
-/
import Derived.Test.YtadgnafafdfioaaGreatDoorGb
import Derived.Test.YtadgnafafdfioaaGreatDoorGD
import Derived.Test.YtadgnafafdfioaaGreatDoorMl
namespace Go.Proofs.YtadgnafafdfioaaGreatDoor.Gr
open Go.Proofs.YtadgnafafdfioaaGreatDoor.Rd
set_option maxRecDepth 100000
open Go.RowKit
set_option linter.unusedVariables false
set_option linter.unusedSimpArgs false

theorem made_any (l : List Nd) (op name K : ByteArray) (A B n : Int) (zs : List Int) (data : List ByteArray) (sc dc c : Nat) (sa da ao : Option Addr) (aF aZ : Addr) (w : World) (hE : Er w aF aZ) (hl : Nl w ao l) (hS : Sp.Sl w sa zs) (hD : Row w da (txts data)) (hb : Nb ⟨op, A, B, name, zs, K, n, data⟩) (hls : ∀ i, i < l.length → (l.getD i zn).shape.length ≤ 1000) :
    Calls Tryz.prog 21 #[.slice ao l.length c, .agg #[.string op, .int .i64 A, .int .i64 B, .string name, .slice sa zs.length sc, .string K, .int .i64 n, .slice da data.length dc]] w fun e w' => Shp w' (mad l ⟨op, A, B, name, zs, K, n, data⟩) e ∧ Below w.heap.size w w' := by
  unfold mad
  simp only
  rcases prv_cases op with ⟨h1, h2⟩ | ⟨h1, h2⟩ | ⟨h1, h2⟩ | ⟨h1, h2⟩
  · rw [h1]
    exact made_none l op name K A B n zs data sc dc c sa da ao aF aZ w hE hl hS hD hb hls h2
  · rw [h1]
    simp only
    refine (made_0 l op name K A B n zs data sc dc c sa da ao aF aZ w hE hl hS hD hb hls h2).mono ?_
    rintro e w' ⟨⟨a, c', he, hs⟩, hb⟩
    refine ⟨?_, hb⟩
    cases hg : gvn ⟨op, A, B, name, zs, K, n, data⟩ with
    | true => rw [hg] at he; exact ⟨a, c', he, hs⟩
    | false => rw [hg] at he; exact ⟨a, _, c', he⟩
  · rw [h1]
    simp only
    cases hA : inl l.length A with
    | false =>
      exact made_1n l op name K A B n zs data sc dc c sa da ao aF aZ w hE hl hS hD hb hls h2 hA
    | true =>
      rw [if_pos rfl]
      cases ho : sgl ⟨op, A, B, name, zs, K, n, data⟩ (sha l A) with
      | none => exact made_1o l op name K A B n zs data sc dc c sa da ao aF aZ w hE hl hS hD hb hls h2 hA ho
      | some s => exact made_1y l op name K A B n zs data sc dc c sa da ao aF aZ w hE hl hS hD hb hls s h2 hA ho
  · rw [h1]
    simp only
    cases hA : inl l.length A with
    | false =>
      rw [if_neg (by rintro ⟨h, _⟩; cases h)]
      exact made_2n l op name K A B n zs data sc dc c sa da ao aF aZ w hE hl hS hD hb hls h2 hA
    | true =>
      cases hB : inl l.length B with
      | false =>
        rw [if_neg (by rintro ⟨_, h⟩; cases h)]
        exact made_2m l op name K A B n zs data sc dc c sa da ao aF aZ w hE hl hS hD hb hls h2 hA hB
      | true =>
        rw [if_pos ⟨rfl, rfl⟩]
        cases ho : pai op (sha l A) (sha l B) with
        | none => exact made_2o l op name K A B n zs data sc dc c sa da ao aF aZ w hE hl hS hD hb hls h2 hA hB ho
        | some s => exact made_2y l op name K A B n zs data sc dc c sa da ao aF aZ w hE hl hS hD hb hls s h2 hA hB ho

/-- what Infer tells: the shape, a slice of its own, and true; or nothing and false -/
def Shi (w' : World) (B : Nat) (o : Option (List Int)) (e : Ending) : Prop :=
  match o with
  | some s => ∃ a c, e = .returned (.tuple #[.slice a s.length c, .bool true]) ∧ Sp.Sl w' a s ∧ w'.ownsRow B 3 1 (.slice a s.length c) s.length (Tn.nums s)
  | none => e = .returned (.tuple #[.slice none 0 0, .bool false])
theorem own8 {w v : World} {a : Array Value} {r : TypeId} (h : Below (w.alloc (.cells a r)).heap.size (w.alloc (.cells a r)) v) : (∀ i, v.cell? ⟨w.heap.size, i, none⟩ = a[i]?) ∧ Below w.heap.size w v := by
  have hs : (w.alloc (.cells a r)).heap.size = w.heap.size + 1 := by simp
  have f1 : v.heap[w.heap.size]? = some (.cells a r) := by rw [h.block _ (by omega)]; exact heap_alloc_new w _
  exact ⟨fun i => by simp [World.cell?, f1], bl_trans (bl_alloc (Below.refl _ w) _) h⟩
set_option maxHeartbeats 4000000 in
theorem infer_no1 (l : List Nd) (op name K : ByteArray) (A B n : Int) (zs : List Int) (data : List ByteArray) (sc dc c : Nat) (sa da ao : Option Addr) (aF aZ : Addr) (w : World) (hE : Er w aF aZ) (hl : Nl w ao l) (hS : Sp.Sl w sa zs) (hD : Row w da (txts data)) (hb : Nb ⟨op, A, B, name, zs, K, n, data⟩) (hls : ∀ i, i < l.length → (l.getD i zn).shape.length ≤ 1000) (hp : pla ⟨op, A, B, name, zs, K, n, data⟩ = false) :
    Calls Tryz.prog 10 #[.slice ao l.length c, .agg #[.string op, .int .i64 A, .int .i64 B, .string name, .slice sa zs.length sc, .string K, .int .i64 n, .slice da data.length dc]] w fun e w' => e = .returned (.tuple #[.slice none 0 0, .bool false]) ∧ Below w.heap.size w w' := by
  have HP : Hid (∀ v, Calls Tryz.prog 20 #[.agg #[.string op, .int .i64 A, .int .i64 B, .string name, .slice sa zs.length sc, .string K, .int .i64 n, .slice da data.length dc]] v fun e w' => e = .returned (.bool false) ∧ Below v.heap.size v w') := fun v => hp ▸ plain_any op name K A B n zs data sc dc sa da v
  clear hE hl hS hD hb hls hp
  generalize zs.length = sl at HP ⊢
  generalize data.length = dl at HP ⊢
  go_enter Tryz.func10, Tryz.ntmps10
  go_wp2_with fail
  refine (HP.out _).mono ?_
  rintro e w1 ⟨rfl, h1⟩
  have H1 : Hid _ := (own8 h1).2
  clear h1
  go_wp2
  go_ret2
  exact ⟨rfl, H1.out⟩
set_option maxHeartbeats 4000000 in
theorem infer_no2 (l : List Nd) (op name K : ByteArray) (A B n : Int) (zs : List Int) (data : List ByteArray) (sc dc c : Nat) (sa da ao : Option Addr) (aF aZ : Addr) (w : World) (hE : Er w aF aZ) (hl : Nl w ao l) (hS : Sp.Sl w sa zs) (hD : Row w da (txts data)) (hb : Nb ⟨op, A, B, name, zs, K, n, data⟩) (hls : ∀ i, i < l.length → (l.getD i zn).shape.length ≤ 1000) (hp : pla ⟨op, A, B, name, zs, K, n, data⟩ = true) (hm : mad l ⟨op, A, B, name, zs, K, n, data⟩ = none) :
    Calls Tryz.prog 10 #[.slice ao l.length c, .agg #[.string op, .int .i64 A, .int .i64 B, .string name, .slice sa zs.length sc, .string K, .int .i64 n, .slice da data.length dc]] w fun e w' => e = .returned (.tuple #[.slice none 0 0, .bool false]) ∧ Below w.heap.size w w' := by
  have HP : Hid (∀ v, Calls Tryz.prog 20 #[.agg #[.string op, .int .i64 A, .int .i64 B, .string name, .slice sa zs.length sc, .string K, .int .i64 n, .slice da data.length dc]] v fun e w' => e = .returned (.bool true) ∧ Below v.heap.size v w') := fun v => hp ▸ plain_any op name K A B n zs data sc dc sa da v
  have HM : Hid (∀ v, Below w.heap.size w v → Calls Tryz.prog 21 #[.slice ao l.length c, .agg #[.string op, .int .i64 A, .int .i64 B, .string name, .slice sa zs.length sc, .string K, .int .i64 n, .slice da data.length dc]] v fun e w' => Shp w' (mad l ⟨op, A, B, name, zs, K, n, data⟩) e ∧ Below v.heap.size v w') := fun v hv => made_any l op name K A B n zs data sc dc c sa da ao aF aZ v (hE.below hv) (hl.below hv) (sl_below hS hv) (Row.below hD hv) hb hls
  rw [hm] at HM
  clear hE hl hS hD hb hls hp hm
  generalize zs.length = sl at HP HM ⊢
  generalize data.length = dl at HP HM ⊢
  generalize l.length = ll at HM ⊢
  go_enter Tryz.func10, Tryz.ntmps10
  go_wp2_with fail
  refine (HP.out _).mono ?_
  rintro e w1 ⟨rfl, h1⟩
  obtain ⟨o1, h1'⟩ := own8 h1
  have q0 := o1 0
  have q1 := o1 1
  have q2 := o1 2
  have q3 := o1 3
  have q4 := o1 4
  have q5 := o1 5
  have q6 := o1 6
  have q7 := o1 7
  simp at q0 q1 q2 q3 q4 q5 q6 q7
  have H1 : Hid (Below w.heap.size w w1) := h1'
  clear h1 h1' o1
  obtain ⟨p, hpz⟩ : ∃ p, w.heap.size = p := ⟨_, rfl⟩
  have HZ : Hid _ := hpz
  simp only [hpz] at q0 q1 q2 q3 q4 q5 q6 q7 ⊢
  clear hpz
  go_wp2_with fail
  refine (HM.out _ H1.out).mono ?_
  rintro e w2 ⟨⟨a2, n2, c2, rfl⟩, h2⟩
  have H2 : Hid _ := H1.out.trans (h2.mono H1.out.size)
  clear h2
  go_wp2
  go_ret2
  exact ⟨rfl, HZ.out ▸ H2.out⟩
set_option maxHeartbeats 4000000 in
theorem infer_no3 (l : List Nd) (op name K : ByteArray) (A B n : Int) (zs : List Int) (data : List ByteArray) (sc dc c : Nat) (sa da ao : Option Addr) (aF aZ : Addr) (w : World) (hE : Er w aF aZ) (hl : Nl w ao l) (hS : Sp.Sl w sa zs) (hD : Row w da (txts data)) (hb : Nb ⟨op, A, B, name, zs, K, n, data⟩) (hls : ∀ i, i < l.length → (l.getD i zn).shape.length ≤ 1000) (s : List Int) (hp : pla ⟨op, A, B, name, zs, K, n, data⟩ = true) (hm : mad l ⟨op, A, B, name, zs, K, n, data⟩ = some s) (hr : ¬ Sp.Rgt s) (hsl : s.length ≤ 1000) :
    Calls Tryz.prog 10 #[.slice ao l.length c, .agg #[.string op, .int .i64 A, .int .i64 B, .string name, .slice sa zs.length sc, .string K, .int .i64 n, .slice da data.length dc]] w fun e w' => e = .returned (.tuple #[.slice none 0 0, .bool false]) ∧ Below w.heap.size w w' := by
  have HR : Hid (∀ v a c, Sp.Sl v a s → Calls Tryz.prog 22 #[.slice a s.length c] v fun e w' => e = .returned (.bool false) ∧ w' = v) := fun v a c h => by
    have := Sp.right_any a s c v hsl h
    rw [decide_eq_false hr] at this
    exact this
  clear hr
  have HP : Hid (∀ v, Calls Tryz.prog 20 #[.agg #[.string op, .int .i64 A, .int .i64 B, .string name, .slice sa zs.length sc, .string K, .int .i64 n, .slice da data.length dc]] v fun e w' => e = .returned (.bool true) ∧ Below v.heap.size v w') := fun v => hp ▸ plain_any op name K A B n zs data sc dc sa da v
  have HM : Hid (∀ v, Below w.heap.size w v → Calls Tryz.prog 21 #[.slice ao l.length c, .agg #[.string op, .int .i64 A, .int .i64 B, .string name, .slice sa zs.length sc, .string K, .int .i64 n, .slice da data.length dc]] v fun e w' => Shp w' (mad l ⟨op, A, B, name, zs, K, n, data⟩) e ∧ Below v.heap.size v w') := fun v hv => made_any l op name K A B n zs data sc dc c sa da ao aF aZ v (hE.below hv) (hl.below hv) (sl_below hS hv) (Row.below hD hv) hb hls
  rw [hm] at HM
  clear hE hl hS hD hb hls hp hm
  generalize zs.length = sl at HP HM ⊢
  generalize data.length = dl at HP HM ⊢
  generalize l.length = ll at HM ⊢
  go_enter Tryz.func10, Tryz.ntmps10
  go_wp2_with fail
  refine (HP.out _).mono ?_
  rintro e w1 ⟨rfl, h1⟩
  obtain ⟨o1, h1'⟩ := own8 h1
  have q0 := o1 0
  have q1 := o1 1
  have q2 := o1 2
  have q3 := o1 3
  have q4 := o1 4
  have q5 := o1 5
  have q6 := o1 6
  have q7 := o1 7
  simp at q0 q1 q2 q3 q4 q5 q6 q7
  have H1 : Hid (Below w.heap.size w w1) := h1'
  clear h1 h1' o1
  obtain ⟨p, hpz⟩ : ∃ p, w.heap.size = p := ⟨_, rfl⟩
  have HZ : Hid _ := hpz
  simp only [hpz] at q0 q1 q2 q3 q4 q5 q6 q7 ⊢
  clear hpz
  go_wp2_with fail
  refine (HM.out _ H1.out).mono ?_
  rintro e w2 ⟨⟨a2, c2, rfl, hs⟩, h2⟩
  have H2 : Hid _ := H1.out.trans (h2.mono H1.out.size)
  have HR2 := HR.out _ a2 c2 hs
  clear h2 HR hs
  generalize s.length = sn at HR2 ⊢
  go_wp2_with fail
  refine HR2.mono ?_
  rintro e w3 ⟨rfl, rfl⟩
  go_wp2
  go_ret2
  exact ⟨rfl, HZ.out ▸ H2.out⟩
set_option maxHeartbeats 4000000 in
theorem infer_yes (l : List Nd) (op name K : ByteArray) (A B n : Int) (zs : List Int) (data : List ByteArray) (sc dc c : Nat) (sa da ao : Option Addr) (aF aZ : Addr) (w : World) (hE : Er w aF aZ) (hl : Nl w ao l) (hS : Sp.Sl w sa zs) (hD : Row w da (txts data)) (hb : Nb ⟨op, A, B, name, zs, K, n, data⟩) (hls : ∀ i, i < l.length → (l.getD i zn).shape.length ≤ 1000) (s : List Int) (hp : pla ⟨op, A, B, name, zs, K, n, data⟩ = true) (hm : mad l ⟨op, A, B, name, zs, K, n, data⟩ = some s) (hr : Sp.Rgt s) :
    Calls Tryz.prog 10 #[.slice ao l.length c, .agg #[.string op, .int .i64 A, .int .i64 B, .string name, .slice sa zs.length sc, .string K, .int .i64 n, .slice da data.length dc]] w fun e w' => (∃ a c, e = .returned (.tuple #[.slice a s.length c, .bool true]) ∧ Sp.Sl w' a s ∧ w'.ownsRow w.heap.size 3 1 (.slice a s.length c) s.length (Tn.nums s)) ∧ Below w.heap.size w w' := by
  have hsl : s.length ≤ 1000 := by have := hr.1; omega
  have HR : Hid (∀ v a c, Sp.Sl v a s → Calls Tryz.prog 22 #[.slice a s.length c] v fun e w' => e = .returned (.bool true) ∧ w' = v) := fun v a c h => by
    have := Sp.right_any a s c v hsl h
    rw [decide_eq_true hr] at this
    exact this
  have HC : Hid (∀ v a c, Sp.Sl v a s → Calls Tryz.prog 23 #[.slice a s.length c] v fun e w' => ∃ a1 c1, e = .returned (.slice a1 s.length c1) ∧ Sp.Sl w' a1 s ∧ w'.ownsRow v.heap.size 3 1 (.slice a1 s.length c1) s.length (Tn.nums s) ∧ Below v.heap.size v w') := fun v a c h => by
    refine (Tn.clone_any a s c v hsl h).mono ?_
    rintro e w' ⟨a1, c1, h1, h2, _, h4, h5⟩
    exact ⟨a1, c1, h1, h2, h4, h5⟩
  clear hr hsl
  have HP : Hid (∀ v, Calls Tryz.prog 20 #[.agg #[.string op, .int .i64 A, .int .i64 B, .string name, .slice sa zs.length sc, .string K, .int .i64 n, .slice da data.length dc]] v fun e w' => e = .returned (.bool true) ∧ Below v.heap.size v w') := fun v => hp ▸ plain_any op name K A B n zs data sc dc sa da v
  have HM : Hid (∀ v, Below w.heap.size w v → Calls Tryz.prog 21 #[.slice ao l.length c, .agg #[.string op, .int .i64 A, .int .i64 B, .string name, .slice sa zs.length sc, .string K, .int .i64 n, .slice da data.length dc]] v fun e w' => Shp w' (mad l ⟨op, A, B, name, zs, K, n, data⟩) e ∧ Below v.heap.size v w') := fun v hv => made_any l op name K A B n zs data sc dc c sa da ao aF aZ v (hE.below hv) (hl.below hv) (sl_below hS hv) (Row.below hD hv) hb hls
  rw [hm] at HM
  clear hE hl hS hD hb hls hp hm
  generalize zs.length = sl at HP HM ⊢
  generalize data.length = dl at HP HM ⊢
  generalize l.length = ll at HM ⊢
  go_enter Tryz.func10, Tryz.ntmps10
  go_wp2_with fail
  refine (HP.out _).mono ?_
  rintro e w1 ⟨rfl, h1⟩
  obtain ⟨o1, h1'⟩ := own8 h1
  have q0 := o1 0
  have q1 := o1 1
  have q2 := o1 2
  have q3 := o1 3
  have q4 := o1 4
  have q5 := o1 5
  have q6 := o1 6
  have q7 := o1 7
  simp at q0 q1 q2 q3 q4 q5 q6 q7
  have H1 : Hid (Below w.heap.size w w1) := h1'
  clear h1 h1' o1
  obtain ⟨p, hpz⟩ : ∃ p, w.heap.size = p := ⟨_, rfl⟩
  have HZ : Hid _ := hpz
  simp only [hpz] at q0 q1 q2 q3 q4 q5 q6 q7 ⊢
  clear hpz
  go_wp2_with fail
  refine (HM.out _ H1.out).mono ?_
  rintro e w2 ⟨⟨a2, c2, rfl, hs⟩, h2⟩
  have H2 : Hid _ := H1.out.trans (h2.mono H1.out.size)
  have HR2 := HR.out _ a2 c2 hs
  have HC2 := HC.out _ a2 c2 hs
  clear h2 HR HC hs
  obtain ⟨sn, hsn⟩ : ∃ m, s.length = m := ⟨_, rfl⟩
  have HSN : Hid _ := hsn
  rw [hsn] at HR2 HC2 ⊢
  clear hsn
  go_wp2_with fail
  refine HR2.mono ?_
  rintro e w3 ⟨rfl, rfl⟩
  go_wp2_with fail
  refine HC2.mono ?_
  rintro e w4 ⟨a1, c1, rfl, hs1, hf1, h4⟩
  have H4 : Hid _ := H2.out.trans (h4.mono H2.out.size)
  have HF : Hid _ := hs1
  have HG : Hid _ := Lx.own_mono hf1 H2.out.size
  clear h4 hs1 hf1
  go_wp2
  go_ret2
  exact ⟨⟨a1, c1, by rw [HSN.out]; rfl, HF.out, by rw [HSN.out]; exact HG.out⟩, HZ.out ▸ H4.out⟩
theorem infer_any (l : List Nd) (op name K : ByteArray) (A B n : Int) (zs : List Int) (data : List ByteArray) (sc dc c : Nat) (sa da ao : Option Addr) (aF aZ : Addr) (w : World) (hE : Er w aF aZ) (hl : Nl w ao l) (hS : Sp.Sl w sa zs) (hD : Row w da (txts data)) (hb : Nb ⟨op, A, B, name, zs, K, n, data⟩) (hls : ∀ i, i < l.length → (l.getD i zn).shape.length ≤ 1000) (hsl : ∀ s, mad l ⟨op, A, B, name, zs, K, n, data⟩ = some s → s.length ≤ 1000) :
    Calls Tryz.prog 10 #[.slice ao l.length c, .agg #[.string op, .int .i64 A, .int .i64 B, .string name, .slice sa zs.length sc, .string K, .int .i64 n, .slice da data.length dc]] w fun e w' => Shi w' w.heap.size (inf l ⟨op, A, B, name, zs, K, n, data⟩) e ∧ Below w.heap.size w w' := by
  unfold inf
  cases hp : pla ⟨op, A, B, name, zs, K, n, data⟩ with
  | false => exact infer_no1 l op name K A B n zs data sc dc c sa da ao aF aZ w hE hl hS hD hb hls hp
  | true =>
    rw [if_pos rfl]
    cases hm : mad l ⟨op, A, B, name, zs, K, n, data⟩ with
    | none => exact infer_no2 l op name K A B n zs data sc dc c sa da ao aF aZ w hE hl hS hD hb hls hp hm
    | some s =>
      rw [Option.bind_some]
      unfold rgo
      by_cases hr : Sp.Rgt s
      · rw [if_pos hr]; exact infer_yes l op name K A B n zs data sc dc c sa da ao aF aZ w hE hl hS hD hb hls s hp hm hr
      · rw [if_neg hr]; exact infer_no3 l op name K A B n zs data sc dc c sa da ao aF aZ w hE hl hS hD hb hls s hp hm hr (hsl s hm)
theorem mad_len {l : List Nd} {n : Nd} {s : List Int} (hn : n.shape.length ≤ 1000) (hls : ∀ i, i < l.length → (l.getD i zn).shape.length ≤ 1000) (h : mad l n = some s) : s.length ≤ 1000 := by
  have hA : ∀ A, inl l.length A = true → (sha l A).length ≤ 1000 := fun A hA => hls _ (by have := inl_iff.1 hA; omega)
  unfold mad at h
  split at h
  · split at h
    · cases h; exact hn
    · cases h
  · split at h
    · rename_i hA'
      have h1 := hA _ hA'
      unfold sgl at h
      repeat' (split at h)
      all_goals first
        | (cases h; done)
        | (cases h; first | exact h1 | exact hn | simp)
    · cases h
  · split at h
    · rename_i hA'
      have h1 := hA _ hA'.1
      unfold pai at h
      repeat' (split at h)
      all_goals first
        | (cases h; done)
        | (cases h; first | exact h1 | simp)
    · cases h
  · cases h
/-- Infer, of a node behind nodes that have shapes -/
theorem Infer_any (l : List Nd) (nd : Nd) (sc dc c : Nat) (sa da ao : Option Addr) (aF aZ : Addr) (w : World) (hE : Er w aF aZ) (hl : Nl w ao l) (hS : Sp.Sl w sa nd.shape) (hD : Row w da (txts nd.data)) (hb : Nb nd) (hls : ∀ i, i < l.length → Sp.Rgt (l.getD i zn).shape) :
    Calls Tryz.prog 10 #[.slice ao l.length c, nv nd sa sc da dc] w fun e w' => Shi w' w.heap.size (shp l nd) e ∧ Below w.heap.size w w' := by
  have h4 : ∀ i, i < l.length → (l.getD i zn).shape.length ≤ 1000 := fun i hi => by have := (hls i hi).1; omega
  rw [← inf_shp hls]
  have hm := fun s h => mad_len (l := l) (n := nd) (s := s) hb.1 h4 h
  obtain ⟨op, A, B, name, zs, K, n, data⟩ := nd
  exact infer_any l op name K A B n zs data sc dc c sa da ao aF aZ w hE hl hS hD hb h4 hm
end Go.Proofs.YtadgnafafdfioaaGreatDoor.Gr
