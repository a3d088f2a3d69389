/-
  AN OPERATION's STATEMENT, WITH WHAT STANDS BEHIND ITS NAMES. Conditions: each theorem's own.
-/
import Derived.Test.YtadgnafafdfioaaGreatDoorRA
import Derived.Deep.RegionWith
namespace Go.Proofs.YtadgnafafdfioaaGreatDoor.Rd
set_option maxRecDepth 100000
open Go.RowKit Nm
set_option linter.unusedVariables false
set_option linter.unusedSimpArgs false

/-- a statement's value -/
abbrev sv (name op : ByteArray) (ua ud : Value) (k : ByteArray) (n : Nat) (ut : Value) : Value := .agg #[.string name, .string op, ua, ud, .string k, .int .i64 (n : Int), ut]
abbrev nils : Value := .slice none 0 0
abbrev zv : Value := .agg #[.string ⟨#[]⟩, .string ⟨#[]⟩, .slice none 0 0, .slice none 0 0, .string ⟨#[]⟩, .int .i64 0, .slice none 0 0]

theorem own2 {w v : World} {a b : Array Value} {r q : TypeId} (h : Below ((w.alloc (.cells a r)).alloc (.cells b q)).heap.size ((w.alloc (.cells a r)).alloc (.cells b q)) v) :
    (∀ i, v.cell? ⟨w.heap.size, i, none⟩ = a[i]?) ∧ (∀ i, v.cell? ⟨w.heap.size + 1, i, none⟩ = b[i]?) ∧ (∀ i, v.frozen? ⟨w.heap.size, i, none⟩ = false) ∧ (∀ i, v.frozen? ⟨w.heap.size + 1, i, none⟩ = false) ∧ Below w.heap.size w v := by
  obtain ⟨o1, o2, o3⟩ := own1 h
  rw [show (w.alloc (.cells a r)).heap.size = w.heap.size + 1 by simp] at o1 o2
  obtain ⟨p1, p2, p3⟩ := own1 o3
  exact ⟨p1, o1, p2, o2, p3⟩
theorem grown_set (w : World) (p : Addr) (x : Value) : w.grownBy (w.setCell p x) (some p.block) := by
  have h := (Below.refl (w.heap.size) w)
  refine ⟨by first | rfl | simp, by first | rfl | simp, by first | rfl | simp, by simp, fun k hk hne => ?_⟩
  exact Below.heap_setCell _ _ _ _ (fun e => hne (by rw [e]))
theorem own_set {w : World} {base e size n : Nat} {v : Value} {xs : List Value} (h : w.ownsRow base e size v n xs) {p : Addr} (hp : p.block < base) (x : Value) : (w.setCell p x).ownsRow base e size v n xs := by
  refine h.kept (grown_set w p x) ?_
  cases hv : v.ownBlock with
  | none => exact Or.inl rfl
  | some k =>
    right
    intro e
    have := (h.lt k hv).1
    cases e
    omega

set_option maxHeartbeats 1000000 in
theorem fin_dims (name op : ByteArray) (hop : op = ⟨lReshape.toArray⟩ ∨ op = ⟨lSpread.toArray⟩) (a1 : Option Addr) (m1 c1 : Nat) (bo : Option Addr) (rest : List ByteArray) (d : Nat) (w : World) (hR : Row w bo (txts rest)) (r : Bool) (dv : List Int) (hd : dmo rest = r) (hv : dmv rest = dv) :
    Calls Tryz.prog 78 #[sv name op (.slice a1 m1 c1) nils em 0 nils, .slice bo rest.length d] w fun e w' =>
      (if r then ∃ ud, e = .returned (.tuple #[sv name op (.slice a1 m1 c1) ud em 0 nils, .bool true]) ∧ Od w' w.heap.size ud dv else e = .returned (.tuple #[zv, .bool false])) ∧ Below w.heap.size w w' := by
  have D : ∀ v, Below w.heap.size w v → w.heap.size + 2 ≤ v.heap.size → Calls Tryz.prog 79 #[.slice bo rest.length d] v fun e w' => ∃ u, e = .returned (.tuple #[u, .bool r]) ∧ Od w' (w.heap.size + 2) u dv ∧ Below v.heap.size v w' := by
    intro v hv' hs
    refine (dims_any bo rest d v (hR.below hv')).mono ?_
    rintro e w' ⟨u, e1, e2, e3⟩
    rw [hd] at e1
    rw [hv] at e2
    exact ⟨u, e1, e2.mono hs, e3⟩
  have HD : Hid _ := D
  clear D hd hv hR
  have hc : ∀ o1 o2, Below w.heap.size w ((w.alloc o1).alloc o2) := fun o1 o2 => ((Below.refl _ _).alloc (Nat.le_refl _) _).alloc (by simp) _
  have HC : Hid _ := hc
  clear hc
  rcases hop with rfl | rfl
  · go_enter Tryz.func78, Tryz.ntmps78
    go_wp2_with fail
    refine (HD.out _ (HC.out _ _) (by simp)).mono ?_
    rintro e w1 ⟨u, rfl, hO, h1⟩
    obtain ⟨o1, o2, f1, f2, hB⟩ := own2 h1
    have q0 := o1 0
    have q1 := o1 1
    have q2 := o1 2
    have q3 := o1 3
    have q4 := o1 4
    have q5 := o1 5
    have q6 := o1 6
    have z0 := o2 0
    have z1 := o2 1
    have z2 := o2 2
    have z3 := o2 3
    have z4 := o2 4
    have z5 := o2 5
    have z6 := o2 6
    have g0 := f1 3
    have g1 := f2 0
    simp at q0 q1 q2 q3 q4 q5 q6 z0 z1 z2 z3 z4 z5 z6
    have HB : Hid _ := hB
    clear o1 o2 h1 hB
    have HO : Hid _ := hO
    obtain ⟨ao, cap, rfl, _⟩ := hO.form
    clear hO
    cases r with
    | true =>
      go_wp2
      refine bodyPost_ret (v := .tuple #[sv name _ (.slice a1 m1 c1) (.slice ao dv.length cap) em 0 nils, .bool true]) ?_ rfl ⟨⟨_, rfl, ?_⟩, ?_⟩
      · simp [results, Tryz.results78, go_sem, q0, q1, q2, q3, q4, q5, q6, z0, z1, z2, z3, z4, z5, z6]
      · show World.ownsRow _ _ _ _ _ _ _
        exact Lx.own_mono (base := w.heap.size + 2) (by
          iterate 8 refine own_set ?_ (by simp <;> omega) _
          exact HO.out) (by omega)
      · iterate 8 refine Below.setCell ?_ (by simp) _
        exact HB.out
    | false =>
      go_wp2
      refine bodyPost_ret (v := .tuple #[zv, .bool false]) ?_ rfl ⟨rfl, ?_⟩
      · simp [results, Tryz.results78, go_sem, q0, q1, q2, q3, q4, q5, q6, z0, z1, z2, z3, z4, z5, z6]
      · iterate 8 refine Below.setCell ?_ (by simp) _
        exact HB.out
  · go_enter Tryz.func78, Tryz.ntmps78
    go_wp2_with fail
    refine (HD.out _ (HC.out _ _) (by simp)).mono ?_
    rintro e w1 ⟨u, rfl, hO, h1⟩
    obtain ⟨o1, o2, f1, f2, hB⟩ := own2 h1
    have q0 := o1 0
    have q1 := o1 1
    have q2 := o1 2
    have q3 := o1 3
    have q4 := o1 4
    have q5 := o1 5
    have q6 := o1 6
    have z0 := o2 0
    have z1 := o2 1
    have z2 := o2 2
    have z3 := o2 3
    have z4 := o2 4
    have z5 := o2 5
    have z6 := o2 6
    have g0 := f1 3
    have g1 := f2 0
    simp at q0 q1 q2 q3 q4 q5 q6 z0 z1 z2 z3 z4 z5 z6
    have HB : Hid _ := hB
    clear o1 o2 h1 hB
    have HO : Hid _ := hO
    obtain ⟨ao, cap, rfl, _⟩ := hO.form
    clear hO
    cases r with
    | true =>
      go_wp2
      refine bodyPost_ret (v := .tuple #[sv name _ (.slice a1 m1 c1) (.slice ao dv.length cap) em 0 nils, .bool true]) ?_ rfl ⟨⟨_, rfl, ?_⟩, ?_⟩
      · simp [results, Tryz.results78, go_sem, q0, q1, q2, q3, q4, q5, q6, z0, z1, z2, z3, z4, z5, z6]
      · show World.ownsRow _ _ _ _ _ _ _
        exact Lx.own_mono (base := w.heap.size + 2) (by
          iterate 8 refine own_set ?_ (by simp <;> omega) _
          exact HO.out) (by omega)
      · iterate 8 refine Below.setCell ?_ (by simp) _
        exact HB.out
    | false =>
      go_wp2
      refine bodyPost_ret (v := .tuple #[zv, .bool false]) ?_ rfl ⟨rfl, ?_⟩
      · simp [results, Tryz.results78, go_sem, q0, q1, q2, q3, q4, q5, q6, z0, z1, z2, z3, z4, z5, z6]
      · iterate 8 refine Below.setCell ?_ (by simp) _
        exact HB.out

theorem fin_plain (name op : ByteArray) (a1 : Option Addr) (m1 c1 : Nat) (bo : Option Addr) (n d : Nat) (w : World) (h0 : isw op lScale = false) (h1 : isw op lPower = false) (h2 : isw op lReshape = false) (h3 : isw op lSpread = false) (r : Bool) (hr : ((n : Int) == 0) = r) :
    Calls Tryz.prog 78 #[sv name op (.slice a1 m1 c1) nils em 0 nils, .slice bo n d] w fun e w' => e = .returned (.tuple #[if r then sv name op (.slice a1 m1 c1) nils em 0 nils else zv, .bool r]) ∧ Below w.heap.size w w' := by
  have g0 := isw_l h0
  have g1 := isw_l h1
  have g2 := isw_l h2
  have g3 := isw_l h3
  clear h0 h1 h2 h3
  cases r with
  | true =>
    go_enter Tryz.func78, Tryz.ntmps78
    go_wp2
    refine bodyPost_ret (v := .tuple #[sv name op (.slice a1 m1 c1) nils em 0 nils, .bool true]) ?_ rfl ⟨rfl, ?_⟩
    · simp [results, Tryz.results78, go_sem]
    · exact ((Below.refl _ _).alloc (Nat.le_refl _) _).alloc (by simp) _
  | false =>
    go_enter Tryz.func78, Tryz.ntmps78
    go_wp2
    refine bodyPost_ret (v := .tuple #[zv, .bool false]) ?_ rfl ⟨rfl, ?_⟩
    · simp [results, Tryz.results78, go_sem]
    · exact ((Below.refl _ _).alloc (Nat.le_refl _) _).alloc (by simp) _
/-- neither of the two, and not one word behind -/
theorem fin_long (name op : ByteArray) (hop : op = ⟨lScale.toArray⟩ ∨ op = ⟨lPower.toArray⟩) (a1 : Option Addr) (m1 c1 : Nat) (bo : Option Addr) (n d : Nat) (w : World) (hn : ((n : Int) == 1) = false) :
    Calls Tryz.prog 78 #[sv name op (.slice a1 m1 c1) nils em 0 nils, .slice bo n d] w fun e w' => e = .returned (.tuple #[zv, .bool false]) ∧ Below w.heap.size w w' := by
  rcases hop with rfl | rfl
  · go_enter Tryz.func78, Tryz.ntmps78
    go_wp2
    refine bodyPost_ret (v := .tuple #[zv, .bool false]) ?_ rfl ⟨rfl, ?_⟩
    · simp [results, Tryz.results78, go_sem]
    · exact ((Below.refl _ _).alloc (Nat.le_refl _) _).alloc (by simp) _
  · go_enter Tryz.func78, Tryz.ntmps78
    go_wp2
    refine bodyPost_ret (v := .tuple #[zv, .bool false]) ?_ rfl ⟨rfl, ?_⟩
    · simp [results, Tryz.results78, go_sem]
    · exact ((Below.refl _ _).alloc (Nat.le_refl _) _).alloc (by simp) _

set_option maxHeartbeats 1000000 in
theorem fin_scale (name : ByteArray) (a1 : Option Addr) (m1 c1 : Nat) (b off : Nat) (x : ByteArray) (d : Nat) (aF aZ : Addr) (w : World) (hE : Er w aF aZ) (hx : x.size ≤ 200000) (hc : w.cell? ⟨b, off, none⟩ = some (.string x)) (r : Bool) (hr : ra x = r) :
    Calls Tryz.prog 78 #[sv name ⟨lScale.toArray⟩ (.slice a1 m1 c1) nils em 0 nils, .slice (some ⟨b, off, none⟩) 1 d] w fun e w' =>
      e = .returned (.tuple #[if r then sv name ⟨lScale.toArray⟩ (.slice a1 m1 c1) nils x 0 nils else zv, .bool r]) ∧ Below w.heap.size w w' := by
  have hb : ∀ o1 o2, Below w.heap.size w ((w.alloc o1).alloc o2) := fun o1 o2 => ((Below.refl _ _).alloc (Nat.le_refl _) _).alloc (by simp) _
  have HC : Hid _ := hb
  have hc2 : ∀ o1 o2, ((w.alloc o1).alloc o2).cell? ⟨b, off, none⟩ = some (.string x) := fun o1 o2 => cell_below (hb o1 o2) hc
  have HE : Hid _ := hE
  have HR : Hid _ := hr
  have hlt : b < w.heap.size := row_lt hc
  clear hb hE hr
  go_enter Tryz.func78, Tryz.ntmps78
  go_wp2_with fail
  refine (Right_is x r aF aZ _ (HE.out.below (HC.out _ _)) hx HR.out).mono ?_
  rintro e w1 ⟨rfl, h1⟩
  have hcx : w1.cell? ⟨b, off, none⟩ = some (.string x) := cell_below h1 (hc2 _ _)
  obtain ⟨o1, o2, f1, f2, hB⟩ := own2 h1
  have q0 := o1 0
  have q1 := o1 1
  have q2 := o1 2
  have q3 := o1 3
  have q4 := o1 4
  have q5 := o1 5
  have q6 := o1 6
  have z0 := o2 0
  have z1 := o2 1
  have z2 := o2 2
  have z3 := o2 3
  have z4 := o2 4
  have z5 := o2 5
  have z6 := o2 6
  have g0 := f1 4
  have g1 := f2 0
  simp at q0 q1 q2 q3 q4 q5 q6 z0 z1 z2 z3 z4 z5 z6
  have HB : Hid _ := hB
  clear o1 o2 h1 hB
  clear hc hc2
  cases r with
  | true =>
    go_wp2
    refine bodyPost_ret (v := .tuple #[sv name _ (.slice a1 m1 c1) nils x 0 nils, .bool true]) ?_ rfl ⟨rfl, ?_⟩
    · simp [results, Tryz.results78, go_sem, q0, q1, q2, q3, q4, q5, q6, z0, z1, z2, z3, z4, z5, z6]
    · iterate 8 refine Below.setCell ?_ (by simp) _
      exact HB.out
  | false =>
    go_wp2
    refine bodyPost_ret (v := .tuple #[zv, .bool false]) ?_ rfl ⟨rfl, ?_⟩
    · simp [results, Tryz.results78, go_sem, q0, q1, q2, q3, q4, q5, q6, z0, z1, z2, z3, z4, z5, z6]
    · iterate 7 refine Below.setCell ?_ (by simp) _
      exact HB.out

set_option maxHeartbeats 1000000 in
theorem fin_power (name : ByteArray) (a1 : Option Addr) (m1 c1 : Nat) (b off : Nat) (x : ByteArray) (d : Nat) (w : World) (hc : w.cell? ⟨b, off, none⟩ = some (.string x)) (v : Nat) (r t : Bool) (hv : numv x.data.toList = v) (hr : nok x.data.toList = r) (ht : decide (v ≤ 6) = t) :
    Calls Tryz.prog 78 #[sv name ⟨lPower.toArray⟩ (.slice a1 m1 c1) nils em 0 nils, .slice (some ⟨b, off, none⟩) 1 d] w fun e w' =>
      e = .returned (.tuple #[if r && t then sv name ⟨lPower.toArray⟩ (.slice a1 m1 c1) nils em v nils else zv, .bool (r && t)]) ∧ Below w.heap.size w w' := by
  have hb : ∀ o1 o2, Below w.heap.size w ((w.alloc o1).alloc o2) := fun o1 o2 => ((Below.refl _ _).alloc (Nat.le_refl _) _).alloc (by simp) _
  have HC : Hid _ := hb
  have hc2 : ∀ o1 o2, ((w.alloc o1).alloc o2).cell? ⟨b, off, none⟩ = some (.string x) := fun o1 o2 => cell_below (hb o1 o2) hc
  have HV : Hid (numv x.data.toList = v ∧ nok x.data.toList = r) := ⟨hv, hr⟩
  have hlt : b < w.heap.size := row_lt hc
  clear hb hv hr
  go_enter Tryz.func78, Tryz.ntmps78
  go_wp2_with fail
  refine (number_any x _).mono ?_
  rintro e w1 ⟨rfl, rfl⟩
  rw [HV.out.1, HV.out.2]
  cases r with
  | true =>
    cases t with
    | true =>
      have h6 : (v : Int) ≤ 6 := by have := of_decide_eq_true ht; omega
      clear ht
      go_wp2
      refine bodyPost_ret (v := .tuple #[sv name ⟨lPower.toArray⟩ (.slice a1 m1 c1) nils em v nils, .bool true]) ?_ rfl ⟨rfl, ?_⟩
      · simp [results, Tryz.results78, go_sem]
      · exact HC.out _ _
    | false =>
      have h6 : decide ((v : Int) ≤ 6) = false := by have := of_decide_eq_false ht; exact decide_eq_false (by omega)
      clear ht
      go_wp2
      refine bodyPost_ret (v := .tuple #[zv, .bool false]) ?_ rfl ⟨rfl, ?_⟩
      · simp [results, Tryz.results78, go_sem]
      · exact HC.out _ _
  | false =>
    go_wp2
    refine bodyPost_ret (v := .tuple #[zv, .bool false]) ?_ rfl ⟨rfl, ?_⟩
    · simp [results, Tryz.results78, go_sem]
    · exact HC.out _ _
end Go.Proofs.YtadgnafafdfioaaGreatDoor.Rd
/-
  THE WORDS BEHIND =. Conditions: each theorem's own.
-/
namespace Go.Proofs.YtadgnafafdfioaaGreatDoor.Rd
set_option maxRecDepth 100000
open Go.RowKit Nm
set_option linter.unusedVariables false
set_option linter.unusedSimpArgs false

/-- the data: of one's own; nothing, if there are names -/
def Ot (w : World) (B : Nat) (v : Value) (s : Sm) : Prop := Ob w B v s.data ∧ (s.args = [] ∨ v = .slice none 0 0)
theorem Ot.below {w w' : World} {B : Nat} {v : Value} {s : Sm} (h : Ot w B v s) (hb : Below w.heap.size w w') : Ot w' B v s := ⟨h.1.below hb, h.2⟩
theorem Ot.mono {w : World} {B B' : Nat} {v : Value} {s : Sm} (h : Ot w B v s) (hb : B' ≤ B) : Ot w B' v s := ⟨h.1.mono hb, h.2⟩
/-- a statement in memory of one's own -/
def So (w : World) (B : Nat) (v : Value) (s : Sm) : Prop := ∃ ua ud ut, v = sv s.name s.op ua ud s.k s.n ut ∧ Ob w B ua s.args ∧ Od w B ud s.dims ∧ Ot w B ut s
theorem So.below {w w' : World} {B : Nat} {v : Value} {s : Sm} (h : So w B v s) (hb : Below w.heap.size w w') : So w' B v s := by
  obtain ⟨ua, ud, ut, e, h1, h2, h3⟩ := h
  exact ⟨ua, ud, ut, e, h1.below hb, h2.below hb, h3.below hb⟩
theorem So.mono {w : World} {B B' : Nat} {v : Value} {s : Sm} (h : So w B v s) (hb : B' ≤ B) : So w B' v s := by
  obtain ⟨ua, ud, ut, e, h1, h2, h3⟩ := h
  exact ⟨ua, ud, ut, e, h1.mono hb, h2.mono hb, h3.mono hb⟩
/-- what is told of words -/
def Fo (w' : World) (B : Nat) (o : Option Sm) (e : Ending) : Prop :=
  match o with
  | none => e = .returned (.tuple #[zv, .bool false])
  | some s => ∃ v, e = .returned (.tuple #[v, .bool true]) ∧ So w' B v s

theorem Row.drop' {w : World} {b off : Nat} {vs : List Value} (h : Row w (some ⟨b, off, none⟩) vs) (k : Nat) : Row w (some ⟨b, off + k, none⟩) (vs.drop k) := by
  intro i v hi
  rw [List.getElem?_drop] at hi
  obtain ⟨b', off', e, hc⟩ := h (k + i) v hi
  cases e
  exact ⟨b, off + k, rfl, by rw [Nat.add_assoc]; exact hc⟩
theorem Row.take' {w : World} {ao : Option Addr} {vs : List Value} (h : Row w ao vs) (k : Nat) : Row w ao (vs.take k) := by
  intro i v hi
  rw [List.getElem?_take] at hi
  split at hi
  · exact h i v hi
  · cases hi
theorem txts_drop (l : List ByteArray) (k : Nat) : (txts l).drop k = txts (l.drop k) := by simp [txts]
theorem txts_take (l : List ByteArray) (k : Nat) : (txts l).take k = txts (l.take k) := by simp [txts]

theorem op_name (name : ByteArray) (ao : Option Addr) (n c : Nat) (w : World) (hn : nmb name = false) :
    Calls Tryz.prog 60 #[.string name, .slice ao n c] w fun e w' => e = .returned (.tuple #[zv, .bool false]) ∧ Below w.heap.size w w' := by
  have hN := Lx.name_any name
  unfold nmb at hn
  rw [hn] at hN
  go_enter Tryz.func60, Tryz.ntmps60
  go_wp2_with fail
  refine (hN _).mono ?_
  rintro e w1 ⟨rfl, rfl⟩
  go_wp2
  refine bodyPost_ret (v := .tuple #[zv, .bool false]) ?_ rfl ⟨rfl, ?_⟩
  · simp [results, Tryz.results60, go_sem]
  · exact (Below.refl _ _).alloc (Nat.le_refl _) _
theorem op_empty (name : ByteArray) (ao : Option Addr) (c : Nat) (w : World) (hn : nmb name = true) :
    Calls Tryz.prog 60 #[.string name, .slice ao 0 c] w fun e w' => e = .returned (.tuple #[zv, .bool false]) ∧ Below w.heap.size w w' := by
  have hN := Lx.name_any name
  unfold nmb at hn
  rw [hn] at hN
  go_enter Tryz.func60, Tryz.ntmps60
  go_wp2_with fail
  refine (hN _).mono ?_
  rintro e w1 ⟨rfl, rfl⟩
  go_wp2
  refine bodyPost_ret (v := .tuple #[zv, .bool false]) ?_ rfl ⟨rfl, ?_⟩
  · simp [results, Tryz.results60, go_sem]
  · exact (Below.refl _ _).alloc (Nat.le_refl _) _
/-- where the words behind the first one stand -/
def Ad (b off c : Nat) (A : Addr) : Prop := (if c = 1 then some (⟨b, off, none⟩ : Addr) else some ⟨b, off + 1, none⟩) = some A
set_option maxHeartbeats 1000000 in
theorem op_none (name op : ByteArray) (b off n c : Nat) (w : World) (hn : nmb name = true) (hl : n ≤ 1000000) (hcap : n + 1 ≤ c) (hcm : c ≤ maxLen) (hc : w.cell? ⟨b, off, none⟩ = some (.string op)) (ha : ari op = 0) :
    Calls Tryz.prog 60 #[.string name, .slice (some ⟨b, off, none⟩) (n + 1) c] w fun e w' => e = .returned (.tuple #[zv, .bool false]) ∧ Below w.heap.size w w' := by
  have hN := Lx.name_any name
  unfold nmb at hn
  rw [hn] at hN
  have hA := arity_any op
  rw [ha] at hA
  have hlt : b < w.heap.size := row_lt hc
  obtain ⟨o1, ho1⟩ : ∃ o1, (if c = 1 then some (⟨b, off, none⟩ : Addr) else some ⟨b, off + 1, none⟩) = some ⟨b, o1, none⟩ := by
    by_cases q : c = 1
    · exact ⟨off, if_pos q⟩
    · exact ⟨off + 1, if_neg q⟩
  go_enter Tryz.func60, Tryz.ntmps60
  go_wp2_with fail
  refine (hN _).mono ?_
  rintro e w1 ⟨rfl, rfl⟩
  go_wp2_with fail
  go_region
  clear hc hN ho1
  go_wp2_with fail
  refine (hA _).mono ?_
  rintro e w1 ⟨rfl, rfl⟩
  clear hA
  simp only [Int.natCast_zero]
  clear hcap hcm
  go_wp2
  refine bodyPost_ret (v := .tuple #[zv, .bool false]) ?_ rfl ⟨rfl, ?_⟩
  · simp [results, Tryz.results60, go_sem]
  · exact ((Below.refl _ _).alloc (Nat.le_refl _) _).drew
set_option maxHeartbeats 1000000 in
theorem op_short1 (name op : ByteArray) (b off n c : Nat) (w : World) (hn : nmb name = true) (hl : n ≤ 1000000) (hcap : n + 1 ≤ c) (hcm : c ≤ maxLen) (hc : w.cell? ⟨b, off, none⟩ = some (.string op)) (ha : ari op = 1) (hs : n < 1) :
    Calls Tryz.prog 60 #[.string name, .slice (some ⟨b, off, none⟩) (n + 1) c] w fun e w' => e = .returned (.tuple #[zv, .bool false]) ∧ Below w.heap.size w w' := by
  have hN := Lx.name_any name
  unfold nmb at hn
  rw [hn] at hN
  have hA := arity_any op
  rw [ha] at hA
  have hlt : b < w.heap.size := row_lt hc
  obtain ⟨o1, ho1⟩ : ∃ o1, (if c = 1 then some (⟨b, off, none⟩ : Addr) else some ⟨b, off + 1, none⟩) = some ⟨b, o1, none⟩ := by
    by_cases q : c = 1
    · exact ⟨off, if_pos q⟩
    · exact ⟨off + 1, if_neg q⟩
  go_enter Tryz.func60, Tryz.ntmps60
  go_wp2_with fail
  refine (hN _).mono ?_
  rintro e w1 ⟨rfl, rfl⟩
  go_wp2_with fail
  go_region
  clear hc hN ho1
  go_wp2_with fail
  refine (hA _).mono ?_
  rintro e w1 ⟨rfl, rfl⟩
  clear hA
  simp only [Int.natCast_one]
  clear hcap hcm
  go_wp2
  refine bodyPost_ret (v := .tuple #[zv, .bool false]) ?_ rfl ⟨rfl, ?_⟩
  · simp [results, Tryz.results60, go_sem]
  · exact ((Below.refl _ _).alloc (Nat.le_refl _) _).drew
set_option maxHeartbeats 1000000 in
theorem op_names1 (name op : ByteArray) (b off n c : Nat) (w : World) (hn : nmb name = true) (hl : n ≤ 1000000) (hcap : n + 1 ≤ c) (hcm : c ≤ maxLen) (hc : w.cell? ⟨b, off, none⟩ = some (.string op)) (ha : ari op = 1) (hs : 1 ≤ n) (hM : ∀ A, Ad b off c A → ∀ v, Below w.heap.size w v → Calls Tryz.prog 77 #[.slice (some A) 1 (c - 1), .func (.func 49) #[] #[]] v fun e w' => e = .returned (.bool false) ∧ w' = v) :
    Calls Tryz.prog 60 #[.string name, .slice (some ⟨b, off, none⟩) (n + 1) c] w fun e w' => e = .returned (.tuple #[zv, .bool false]) ∧ Below w.heap.size w w' := by
  have hN := Lx.name_any name
  unfold nmb at hn
  rw [hn] at hN
  have hA := arity_any op
  rw [ha] at hA
  have hlt : b < w.heap.size := row_lt hc
  obtain ⟨o1, ho1⟩ : ∃ o1, (if c = 1 then some (⟨b, off, none⟩ : Addr) else some ⟨b, off + 1, none⟩) = some ⟨b, o1, none⟩ := by
    by_cases q : c = 1
    · exact ⟨off, if_pos q⟩
    · exact ⟨off + 1, if_neg q⟩
  have hM1 := hM ⟨b, o1, none⟩ ho1
  clear hM
  go_enter Tryz.func60, Tryz.ntmps60
  go_wp2_with fail
  refine (hN _).mono ?_
  rintro e w1 ⟨rfl, rfl⟩
  go_wp2_with fail
  go_region
  clear hc hN ho1
  go_wp2_with fail
  refine (hA _).mono ?_
  rintro e w1 ⟨rfl, rfl⟩
  clear hA
  simp only [Int.natCast_one]
  go_wp2_with fail

  refine (hM1 _ (((Below.refl _ _).alloc (Nat.le_refl _) _).drew)).mono ?_
  rintro e w1 ⟨rfl, rfl⟩
  clear hcap hcm
  go_wp2
  refine bodyPost_ret (v := .tuple #[zv, .bool false]) ?_ rfl ⟨rfl, ?_⟩
  · simp [results, Tryz.results60, go_sem]
  · exact ((Below.refl _ _).alloc (Nat.le_refl _) _).drew
set_option maxHeartbeats 1000000 in
theorem op_short2 (name op : ByteArray) (b off n c : Nat) (w : World) (hn : nmb name = true) (hl : n ≤ 1000000) (hcap : n + 1 ≤ c) (hcm : c ≤ maxLen) (hc : w.cell? ⟨b, off, none⟩ = some (.string op)) (ha : ari op = 2) (hs : n < 2) :
    Calls Tryz.prog 60 #[.string name, .slice (some ⟨b, off, none⟩) (n + 1) c] w fun e w' => e = .returned (.tuple #[zv, .bool false]) ∧ Below w.heap.size w w' := by
  have hN := Lx.name_any name
  unfold nmb at hn
  rw [hn] at hN
  have hA := arity_any op
  rw [ha] at hA
  have hlt : b < w.heap.size := row_lt hc
  obtain ⟨o1, ho1⟩ : ∃ o1, (if c = 1 then some (⟨b, off, none⟩ : Addr) else some ⟨b, off + 1, none⟩) = some ⟨b, o1, none⟩ := by
    by_cases q : c = 1
    · exact ⟨off, if_pos q⟩
    · exact ⟨off + 1, if_neg q⟩
  go_enter Tryz.func60, Tryz.ntmps60
  go_wp2_with fail
  refine (hN _).mono ?_
  rintro e w1 ⟨rfl, rfl⟩
  go_wp2_with fail
  go_region
  clear hc hN ho1
  go_wp2_with fail
  refine (hA _).mono ?_
  rintro e w1 ⟨rfl, rfl⟩
  clear hA
  simp only [Int.cast_ofNat_Int]
  clear hcap hcm
  go_wp2
  refine bodyPost_ret (v := .tuple #[zv, .bool false]) ?_ rfl ⟨rfl, ?_⟩
  · simp [results, Tryz.results60, go_sem]
  · exact ((Below.refl _ _).alloc (Nat.le_refl _) _).drew
set_option maxHeartbeats 1000000 in
theorem op_names2 (name op : ByteArray) (b off n c : Nat) (w : World) (hn : nmb name = true) (hl : n ≤ 1000000) (hcap : n + 1 ≤ c) (hcm : c ≤ maxLen) (hc : w.cell? ⟨b, off, none⟩ = some (.string op)) (ha : ari op = 2) (hs : 2 ≤ n) (hM : ∀ A, Ad b off c A → ∀ v, Below w.heap.size w v → Calls Tryz.prog 77 #[.slice (some A) 2 (c - 1), .func (.func 49) #[] #[]] v fun e w' => e = .returned (.bool false) ∧ w' = v) :
    Calls Tryz.prog 60 #[.string name, .slice (some ⟨b, off, none⟩) (n + 1) c] w fun e w' => e = .returned (.tuple #[zv, .bool false]) ∧ Below w.heap.size w w' := by
  have hN := Lx.name_any name
  unfold nmb at hn
  rw [hn] at hN
  have hA := arity_any op
  rw [ha] at hA
  have hlt : b < w.heap.size := row_lt hc
  obtain ⟨o1, ho1⟩ : ∃ o1, (if c = 1 then some (⟨b, off, none⟩ : Addr) else some ⟨b, off + 1, none⟩) = some ⟨b, o1, none⟩ := by
    by_cases q : c = 1
    · exact ⟨off, if_pos q⟩
    · exact ⟨off + 1, if_neg q⟩
  have hM1 := hM ⟨b, o1, none⟩ ho1
  clear hM
  go_enter Tryz.func60, Tryz.ntmps60
  go_wp2_with fail
  refine (hN _).mono ?_
  rintro e w1 ⟨rfl, rfl⟩
  go_wp2_with fail
  go_region
  clear hc hN ho1
  go_wp2_with fail
  refine (hA _).mono ?_
  rintro e w1 ⟨rfl, rfl⟩
  clear hA
  simp only [Int.cast_ofNat_Int]
  go_wp2_with fail

  refine (hM1 _ (((Below.refl _ _).alloc (Nat.le_refl _) _).drew)).mono ?_
  rintro e w1 ⟨rfl, rfl⟩
  clear hcap hcm
  go_wp2
  refine bodyPost_ret (v := .tuple #[zv, .bool false]) ?_ rfl ⟨rfl, ?_⟩
  · simp [results, Tryz.results60, go_sem]
  · exact ((Below.refl _ _).alloc (Nat.le_refl _) _).drew
end Go.Proofs.YtadgnafafdfioaaGreatDoor.Rd
/-
  THE WORDS BEHIND =: what is made of them. Conditions: each theorem's own.
-/
namespace Go.Proofs.YtadgnafafdfioaaGreatDoor.Rd
set_option maxRecDepth 100000
open Go.RowKit Nm
set_option linter.unusedVariables false
set_option linter.unusedSimpArgs false

abbrev z7 : Array Value := #[.string ⟨#[]⟩, .string ⟨#[]⟩, .slice none 0 0, .slice none 0 0, .string ⟨#[]⟩, .int .i64 0, .slice none 0 0]
/-- a statement's block of one's own, as it was made -/
theorem own7 {w v : World} {r : TypeId} (h : Below (w.alloc (.cells z7 r)).heap.size (w.alloc (.cells z7 r)) v) :
    v.cell? ⟨w.heap.size, 0, none⟩ = some (.string ⟨#[]⟩) ∧ v.cell? ⟨w.heap.size, 1, none⟩ = some (.string ⟨#[]⟩) ∧ v.cell? ⟨w.heap.size, 2, none⟩ = some (.slice none 0 0) ∧ v.cell? ⟨w.heap.size, 3, none⟩ = some (.slice none 0 0) ∧ v.cell? ⟨w.heap.size, 4, none⟩ = some (.string ⟨#[]⟩) ∧
    v.cell? ⟨w.heap.size, 5, none⟩ = some (.int .i64 0) ∧ v.cell? ⟨w.heap.size, 6, none⟩ = some (.slice none 0 0) ∧ (∀ i, v.frozen? ⟨w.heap.size, i, none⟩ = false) ∧ Below w.heap.size w v := by
  obtain ⟨o1, f1, hB⟩ := own1 h
  exact ⟨o1 0, o1 1, o1 2, o1 3, o1 4, o1 5, o1 6, f1, hB⟩
/-- where the words behind an operation's names stand -/
def Ae (b off c k : Nat) (A : Addr) : Prop := ∃ o1, Ad b off c ⟨b, o1, none⟩ ∧ (if c = k + 1 then some (⟨b, o1, none⟩ : Addr) else some ⟨b, o1 + k, none⟩) = some A
set_option maxHeartbeats 4000000 in
theorem op_yes1 (name op : ByteArray) (b off n c : Nat) (w : World) (hn : nmb name = true) (hl : n ≤ 1000000) (hcap : n + 1 ≤ c) (hcm : c ≤ maxLen) (hc : w.cell? ⟨b, off, none⟩ = some (.string op)) (ha : ari op = 1) (hs : 1 ≤ n) (hM : ∀ A, Ad b off c A → ∀ v, Below w.heap.size w v → Calls Tryz.prog 77 #[.slice (some A) 1 (c - 1), .func (.func 49) #[] #[]] v fun e w' => e = .returned (.bool true) ∧ w' = v)
    (args : List ByteArray) (hlen : args.length = 1) (hC : ∀ A, Ad b off c A → ∀ v, Below w.heap.size w v → Calls Tryz.prog 66 #[.slice (some A) 1 (c - 1)] v fun e w' => ∃ u, e = .returned u ∧ w'.ownsRow v.heap.size 9 1 u args.length (txts args) ∧ Below v.heap.size v w')
    (s : Sm) (hsa : s.args = args) (hsd : s.data = []) (hF : ∀ A, Ae b off c 1 A → ∀ a1 c1 v, Below w.heap.size w v → Calls Tryz.prog 78 #[sv name op (.slice a1 1 c1) nils em 0 nils, .slice (some A) (n - 1) (c - 1 - 1)] v fun e w' => ∃ a2 m2 c2, e = .returned (.tuple #[sv s.name s.op (.slice a1 1 c1) (.slice a2 m2 c2) s.k s.n nils, .bool true]) ∧ Od w' v.heap.size (.slice a2 m2 c2) s.dims ∧ Below v.heap.size v w') :
    Calls Tryz.prog 60 #[.string name, .slice (some ⟨b, off, none⟩) (n + 1) c] w fun e w' => (∃ v, e = .returned (.tuple #[v, .bool true]) ∧ So w' w.heap.size v s) ∧ Below w.heap.size w w' := by
  have hN := Lx.name_any name
  unfold nmb at hn
  rw [hn] at hN
  have hA := arity_any op
  rw [ha] at hA
  have hlt : b < w.heap.size := row_lt hc
  obtain ⟨o1, ho1⟩ : ∃ o1, (if c = 1 then some (⟨b, off, none⟩ : Addr) else some ⟨b, off + 1, none⟩) = some ⟨b, o1, none⟩ := by
    by_cases q : c = 1
    · exact ⟨off, if_pos q⟩
    · exact ⟨off + 1, if_neg q⟩
  obtain ⟨o2, ho2⟩ : ∃ o2, (if c = 1 + 1 then some (⟨b, o1, none⟩ : Addr) else some ⟨b, o1 + 1, none⟩) = some ⟨b, o2, none⟩ := by
    by_cases q : c = 1 + 1
    · exact ⟨o1, if_pos q⟩
    · exact ⟨o1 + 1, if_neg q⟩
  have hM1 := hM ⟨b, o1, none⟩ ho1
  have hC1 := hC ⟨b, o1, none⟩ ho1
  have hF1 := hF ⟨b, o2, none⟩ ⟨o1, ho1, ho2⟩
  have HC : Hid _ := hC1
  have HF : Hid _ := hF1
  clear hM hC hC1 hF hF1
  go_enter Tryz.func60, Tryz.ntmps60
  go_wp2_with fail
  refine (hN _).mono ?_
  rintro e w1 ⟨rfl, rfl⟩
  go_wp2_with fail
  go_region
  clear hc hN ho1
  go_wp2_with fail
  refine (hA _).mono ?_
  rintro e w1 ⟨rfl, rfl⟩
  clear hA
  simp only [Int.natCast_one]
  go_wp2_with fail
  refine (hM1 _ (((Below.refl _ _).alloc (Nat.le_refl _) _).drew)).mono ?_
  rintro e w1 ⟨rfl, rfl⟩
  clear hM1
  go_wp2_with fail
  refine (HC.out _ (((Below.refl _ _).alloc (Nat.le_refl _) _).drew)).mono ?_
  rintro e w2 ⟨u, rfl, hO, h2⟩
  have HO : Hid _ := hO
  rw [hlen] at hO
  obtain ⟨a1, c1, rfl, -⟩ := Row.of_own hO
  have HB2 : Hid _ := h2
  clear hO h2
  have hb2 : Below w.heap.size w w2 := (((Below.refl _ _).alloc (Nat.le_refl _) _).drew).trans (HB2.out.mono (by simp))
  have HW : Hid _ := hb2
  clear hb2
  simp only [show 1 + 1 = 2 from rfl] at ho2
  go_wp2_with fail
  go_region_with (go_at_call 78; refine (HF.out _ _ _ (bl_drew (bl_alloc HW.out _))).mono ?_; rintro e w3 ⟨a2, m2, c2, rfl, hD, h3⟩; have hb3 := (HB2.out.trans ((bl_drew (bl_alloc (Below.refl w2.heap.size w2) _)).mono HB2.out.size)).trans (h3.mono (Nat.le_trans HB2.out.size (by simp))); obtain ⟨q0, q1, q2, q3, q4, q5, q6, f1, hB⟩ := own7 (r := 41) ((Below.drew (Below.refl (w.alloc (.cells z7 41)).heap.size (w.alloc (.cells z7 41)))).trans hb3); have HB23 := (bl_drew (bl_alloc (Below.refl w2.heap.size w2) _)).trans (h3.mono (by simp)); have HA : Hid _ := Lx.own_mono (Lx.own_below HO.out HB23) (show w.heap.size + 1 ≤ _ by simp); have HB3 : Hid _ := hB; have HD : Hid _ := Lx.own_mono hD (show w.heap.size + 1 ≤ _ by have := HB2.out.size; simp at this ⊢; omega); clear hD; clear h3 hB hb3 HB23)
  all_goals go_wp2
  all_goals refine bodyPost_ret (v := .tuple #[sv s.name s.op (.slice a1 1 c1) (.slice a2 m2 c2) s.k s.n nils, .bool true]) (by simp [results, Tryz.results60, go_sem, q0, q1, q2, q3, q4, q5, q6]) rfl ⟨⟨_, rfl, _, _, _, rfl, ?_, ?_, ?_⟩, ?_⟩
  all_goals first
    | (rw [hsa]; exact Lx.own_mono (base := w.heap.size + 1) (by iterate 7 refine own_set ?_ (by simp) _
                                                                 exact HA.out) (by omega))
    | (exact Lx.own_mono (base := w.heap.size + 1) (by iterate 7 refine own_set ?_ (by simp) _
                                                       exact HD.out) (by omega))
    | (exact ⟨by rw [hsd]; exact Ob.nil _ _, .inr rfl⟩)
    | (iterate 7 refine Below.setCell ?_ (by simp) _
       exact HB3.out)
set_option maxHeartbeats 4000000 in
theorem op_no1 (name op : ByteArray) (b off n c : Nat) (w : World) (hn : nmb name = true) (hl : n ≤ 1000000) (hcap : n + 1 ≤ c) (hcm : c ≤ maxLen) (hc : w.cell? ⟨b, off, none⟩ = some (.string op)) (ha : ari op = 1) (hs : 1 ≤ n) (hM : ∀ A, Ad b off c A → ∀ v, Below w.heap.size w v → Calls Tryz.prog 77 #[.slice (some A) 1 (c - 1), .func (.func 49) #[] #[]] v fun e w' => e = .returned (.bool true) ∧ w' = v)
    (args : List ByteArray) (hlen : args.length = 1) (hC : ∀ A, Ad b off c A → ∀ v, Below w.heap.size w v → Calls Tryz.prog 66 #[.slice (some A) 1 (c - 1)] v fun e w' => ∃ u, e = .returned u ∧ w'.ownsRow v.heap.size 9 1 u args.length (txts args) ∧ Below v.heap.size v w')
    (hF : ∀ A, Ae b off c 1 A → ∀ a1 c1 v, Below w.heap.size w v → Calls Tryz.prog 78 #[sv name op (.slice a1 1 c1) nils em 0 nils, .slice (some A) (n - 1) (c - 1 - 1)] v fun e w' => e = .returned (.tuple #[zv, .bool false]) ∧ Below v.heap.size v w') :
    Calls Tryz.prog 60 #[.string name, .slice (some ⟨b, off, none⟩) (n + 1) c] w fun e w' => (e = .returned (.tuple #[zv, .bool false])) ∧ Below w.heap.size w w' := by
  have hN := Lx.name_any name
  unfold nmb at hn
  rw [hn] at hN
  have hA := arity_any op
  rw [ha] at hA
  have hlt : b < w.heap.size := row_lt hc
  obtain ⟨o1, ho1⟩ : ∃ o1, (if c = 1 then some (⟨b, off, none⟩ : Addr) else some ⟨b, off + 1, none⟩) = some ⟨b, o1, none⟩ := by
    by_cases q : c = 1
    · exact ⟨off, if_pos q⟩
    · exact ⟨off + 1, if_neg q⟩
  obtain ⟨o2, ho2⟩ : ∃ o2, (if c = 1 + 1 then some (⟨b, o1, none⟩ : Addr) else some ⟨b, o1 + 1, none⟩) = some ⟨b, o2, none⟩ := by
    by_cases q : c = 1 + 1
    · exact ⟨o1, if_pos q⟩
    · exact ⟨o1 + 1, if_neg q⟩
  have hM1 := hM ⟨b, o1, none⟩ ho1
  have hC1 := hC ⟨b, o1, none⟩ ho1
  have hF1 := hF ⟨b, o2, none⟩ ⟨o1, ho1, ho2⟩
  have HC : Hid _ := hC1
  have HF : Hid _ := hF1
  clear hM hC hC1 hF hF1
  go_enter Tryz.func60, Tryz.ntmps60
  go_wp2_with fail
  refine (hN _).mono ?_
  rintro e w1 ⟨rfl, rfl⟩
  go_wp2_with fail
  go_region
  clear hc hN ho1
  go_wp2_with fail
  refine (hA _).mono ?_
  rintro e w1 ⟨rfl, rfl⟩
  clear hA
  simp only [Int.natCast_one]
  go_wp2_with fail
  refine (hM1 _ (((Below.refl _ _).alloc (Nat.le_refl _) _).drew)).mono ?_
  rintro e w1 ⟨rfl, rfl⟩
  clear hM1
  go_wp2_with fail
  refine (HC.out _ (((Below.refl _ _).alloc (Nat.le_refl _) _).drew)).mono ?_
  rintro e w2 ⟨u, rfl, hO, h2⟩
  have HO : Hid _ := hO
  rw [hlen] at hO
  obtain ⟨a1, c1, rfl, -⟩ := Row.of_own hO
  have HB2 : Hid _ := h2
  clear hO h2
  have hb2 : Below w.heap.size w w2 := (((Below.refl _ _).alloc (Nat.le_refl _) _).drew).trans (HB2.out.mono (by simp))
  have HW : Hid _ := hb2
  clear hb2
  simp only [show 1 + 1 = 2 from rfl] at ho2
  go_wp2_with fail
  go_region_with (go_at_call 78; refine (HF.out _ _ _ (bl_drew (bl_alloc HW.out _))).mono ?_; rintro e w3 ⟨rfl, h3⟩; have hb3 := (HB2.out.trans ((bl_drew (bl_alloc (Below.refl w2.heap.size w2) _)).mono HB2.out.size)).trans (h3.mono (Nat.le_trans HB2.out.size (by simp))); obtain ⟨q0, q1, q2, q3, q4, q5, q6, f1, hB⟩ := own7 (r := 41) ((Below.drew (Below.refl (w.alloc (.cells z7 41)).heap.size (w.alloc (.cells z7 41)))).trans hb3); have HB23 := (bl_drew (bl_alloc (Below.refl w2.heap.size w2) _)).trans (h3.mono (by simp)); have HA : Hid _ := Lx.own_mono (Lx.own_below HO.out HB23) (show w.heap.size + 1 ≤ _ by simp); have HB3 : Hid _ := hB; clear h3 hB hb3 HB23)
  all_goals go_wp2
  all_goals refine bodyPost_ret (v := .tuple #[zv, .bool false]) (by simp [results, Tryz.results60, go_sem, q0, q1, q2, q3, q4, q5, q6]) rfl ⟨rfl, ?_⟩
  all_goals
    iterate 7 refine Below.setCell ?_ (by simp) _
    exact HB3.out
set_option maxHeartbeats 4000000 in
theorem op_yes2 (name op : ByteArray) (b off n c : Nat) (w : World) (hn : nmb name = true) (hl : n ≤ 1000000) (hcap : n + 1 ≤ c) (hcm : c ≤ maxLen) (hc : w.cell? ⟨b, off, none⟩ = some (.string op)) (ha : ari op = 2) (hs : 2 ≤ n) (hM : ∀ A, Ad b off c A → ∀ v, Below w.heap.size w v → Calls Tryz.prog 77 #[.slice (some A) 2 (c - 1), .func (.func 49) #[] #[]] v fun e w' => e = .returned (.bool true) ∧ w' = v)
    (args : List ByteArray) (hlen : args.length = 2) (hC : ∀ A, Ad b off c A → ∀ v, Below w.heap.size w v → Calls Tryz.prog 66 #[.slice (some A) 2 (c - 1)] v fun e w' => ∃ u, e = .returned u ∧ w'.ownsRow v.heap.size 9 1 u args.length (txts args) ∧ Below v.heap.size v w')
    (s : Sm) (hsa : s.args = args) (hsd : s.data = []) (hF : ∀ A, Ae b off c 2 A → ∀ a1 c1 v, Below w.heap.size w v → Calls Tryz.prog 78 #[sv name op (.slice a1 2 c1) nils em 0 nils, .slice (some A) (n - 2) (c - 1 - 2)] v fun e w' => ∃ a2 m2 c2, e = .returned (.tuple #[sv s.name s.op (.slice a1 2 c1) (.slice a2 m2 c2) s.k s.n nils, .bool true]) ∧ Od w' v.heap.size (.slice a2 m2 c2) s.dims ∧ Below v.heap.size v w') :
    Calls Tryz.prog 60 #[.string name, .slice (some ⟨b, off, none⟩) (n + 1) c] w fun e w' => (∃ v, e = .returned (.tuple #[v, .bool true]) ∧ So w' w.heap.size v s) ∧ Below w.heap.size w w' := by
  have hN := Lx.name_any name
  unfold nmb at hn
  rw [hn] at hN
  have hA := arity_any op
  rw [ha] at hA
  have hlt : b < w.heap.size := row_lt hc
  obtain ⟨o1, ho1⟩ : ∃ o1, (if c = 1 then some (⟨b, off, none⟩ : Addr) else some ⟨b, off + 1, none⟩) = some ⟨b, o1, none⟩ := by
    by_cases q : c = 1
    · exact ⟨off, if_pos q⟩
    · exact ⟨off + 1, if_neg q⟩
  obtain ⟨o2, ho2⟩ : ∃ o2, (if c = 2 + 1 then some (⟨b, o1, none⟩ : Addr) else some ⟨b, o1 + 2, none⟩) = some ⟨b, o2, none⟩ := by
    by_cases q : c = 2 + 1
    · exact ⟨o1, if_pos q⟩
    · exact ⟨o1 + 2, if_neg q⟩
  have hM1 := hM ⟨b, o1, none⟩ ho1
  have hC1 := hC ⟨b, o1, none⟩ ho1
  have hF1 := hF ⟨b, o2, none⟩ ⟨o1, ho1, ho2⟩
  have HC : Hid _ := hC1
  have HF : Hid _ := hF1
  clear hM hC hC1 hF hF1
  go_enter Tryz.func60, Tryz.ntmps60
  go_wp2_with fail
  refine (hN _).mono ?_
  rintro e w1 ⟨rfl, rfl⟩
  go_wp2_with fail
  go_region
  clear hc hN ho1
  go_wp2_with fail
  refine (hA _).mono ?_
  rintro e w1 ⟨rfl, rfl⟩
  clear hA
  simp only [Int.cast_ofNat_Int]
  go_wp2_with fail
  refine (hM1 _ (((Below.refl _ _).alloc (Nat.le_refl _) _).drew)).mono ?_
  rintro e w1 ⟨rfl, rfl⟩
  clear hM1
  go_wp2_with fail
  refine (HC.out _ (((Below.refl _ _).alloc (Nat.le_refl _) _).drew)).mono ?_
  rintro e w2 ⟨u, rfl, hO, h2⟩
  have HO : Hid _ := hO
  rw [hlen] at hO
  obtain ⟨a1, c1, rfl, -⟩ := Row.of_own hO
  have HB2 : Hid _ := h2
  clear hO h2
  have hb2 : Below w.heap.size w w2 := (((Below.refl _ _).alloc (Nat.le_refl _) _).drew).trans (HB2.out.mono (by simp))
  have HW : Hid _ := hb2
  clear hb2
  simp only [show 2 + 1 = 3 from rfl] at ho2
  go_wp2_with fail
  go_region_with (go_at_call 78; refine (HF.out _ _ _ (bl_drew (bl_alloc HW.out _))).mono ?_; rintro e w3 ⟨a2, m2, c2, rfl, hD, h3⟩; have hb3 := (HB2.out.trans ((bl_drew (bl_alloc (Below.refl w2.heap.size w2) _)).mono HB2.out.size)).trans (h3.mono (Nat.le_trans HB2.out.size (by simp))); obtain ⟨q0, q1, q2, q3, q4, q5, q6, f1, hB⟩ := own7 (r := 41) ((Below.drew (Below.refl (w.alloc (.cells z7 41)).heap.size (w.alloc (.cells z7 41)))).trans hb3); have HB23 := (bl_drew (bl_alloc (Below.refl w2.heap.size w2) _)).trans (h3.mono (by simp)); have HA : Hid _ := Lx.own_mono (Lx.own_below HO.out HB23) (show w.heap.size + 1 ≤ _ by simp); have HB3 : Hid _ := hB; have HD : Hid _ := Lx.own_mono hD (show w.heap.size + 1 ≤ _ by have := HB2.out.size; simp at this ⊢; omega); clear hD; clear h3 hB hb3 HB23)
  all_goals go_wp2
  all_goals refine bodyPost_ret (v := .tuple #[sv s.name s.op (.slice a1 2 c1) (.slice a2 m2 c2) s.k s.n nils, .bool true]) (by simp [results, Tryz.results60, go_sem, q0, q1, q2, q3, q4, q5, q6]) rfl ⟨⟨_, rfl, _, _, _, rfl, ?_, ?_, ?_⟩, ?_⟩
  all_goals first
    | (rw [hsa]; exact Lx.own_mono (base := w.heap.size + 1) (by iterate 7 refine own_set ?_ (by simp) _
                                                                 exact HA.out) (by omega))
    | (exact Lx.own_mono (base := w.heap.size + 1) (by iterate 7 refine own_set ?_ (by simp) _
                                                       exact HD.out) (by omega))
    | (exact ⟨by rw [hsd]; exact Ob.nil _ _, .inr rfl⟩)
    | (iterate 7 refine Below.setCell ?_ (by simp) _
       exact HB3.out)
set_option maxHeartbeats 4000000 in
theorem op_no2 (name op : ByteArray) (b off n c : Nat) (w : World) (hn : nmb name = true) (hl : n ≤ 1000000) (hcap : n + 1 ≤ c) (hcm : c ≤ maxLen) (hc : w.cell? ⟨b, off, none⟩ = some (.string op)) (ha : ari op = 2) (hs : 2 ≤ n) (hM : ∀ A, Ad b off c A → ∀ v, Below w.heap.size w v → Calls Tryz.prog 77 #[.slice (some A) 2 (c - 1), .func (.func 49) #[] #[]] v fun e w' => e = .returned (.bool true) ∧ w' = v)
    (args : List ByteArray) (hlen : args.length = 2) (hC : ∀ A, Ad b off c A → ∀ v, Below w.heap.size w v → Calls Tryz.prog 66 #[.slice (some A) 2 (c - 1)] v fun e w' => ∃ u, e = .returned u ∧ w'.ownsRow v.heap.size 9 1 u args.length (txts args) ∧ Below v.heap.size v w')
    (hF : ∀ A, Ae b off c 2 A → ∀ a1 c1 v, Below w.heap.size w v → Calls Tryz.prog 78 #[sv name op (.slice a1 2 c1) nils em 0 nils, .slice (some A) (n - 2) (c - 1 - 2)] v fun e w' => e = .returned (.tuple #[zv, .bool false]) ∧ Below v.heap.size v w') :
    Calls Tryz.prog 60 #[.string name, .slice (some ⟨b, off, none⟩) (n + 1) c] w fun e w' => (e = .returned (.tuple #[zv, .bool false])) ∧ Below w.heap.size w w' := by
  have hN := Lx.name_any name
  unfold nmb at hn
  rw [hn] at hN
  have hA := arity_any op
  rw [ha] at hA
  have hlt : b < w.heap.size := row_lt hc
  obtain ⟨o1, ho1⟩ : ∃ o1, (if c = 1 then some (⟨b, off, none⟩ : Addr) else some ⟨b, off + 1, none⟩) = some ⟨b, o1, none⟩ := by
    by_cases q : c = 1
    · exact ⟨off, if_pos q⟩
    · exact ⟨off + 1, if_neg q⟩
  obtain ⟨o2, ho2⟩ : ∃ o2, (if c = 2 + 1 then some (⟨b, o1, none⟩ : Addr) else some ⟨b, o1 + 2, none⟩) = some ⟨b, o2, none⟩ := by
    by_cases q : c = 2 + 1
    · exact ⟨o1, if_pos q⟩
    · exact ⟨o1 + 2, if_neg q⟩
  have hM1 := hM ⟨b, o1, none⟩ ho1
  have hC1 := hC ⟨b, o1, none⟩ ho1
  have hF1 := hF ⟨b, o2, none⟩ ⟨o1, ho1, ho2⟩
  have HC : Hid _ := hC1
  have HF : Hid _ := hF1
  clear hM hC hC1 hF hF1
  go_enter Tryz.func60, Tryz.ntmps60
  go_wp2_with fail
  refine (hN _).mono ?_
  rintro e w1 ⟨rfl, rfl⟩
  go_wp2_with fail
  go_region
  clear hc hN ho1
  go_wp2_with fail
  refine (hA _).mono ?_
  rintro e w1 ⟨rfl, rfl⟩
  clear hA
  simp only [Int.cast_ofNat_Int]
  go_wp2_with fail
  refine (hM1 _ (((Below.refl _ _).alloc (Nat.le_refl _) _).drew)).mono ?_
  rintro e w1 ⟨rfl, rfl⟩
  clear hM1
  go_wp2_with fail
  refine (HC.out _ (((Below.refl _ _).alloc (Nat.le_refl _) _).drew)).mono ?_
  rintro e w2 ⟨u, rfl, hO, h2⟩
  have HO : Hid _ := hO
  rw [hlen] at hO
  obtain ⟨a1, c1, rfl, -⟩ := Row.of_own hO
  have HB2 : Hid _ := h2
  clear hO h2
  have hb2 : Below w.heap.size w w2 := (((Below.refl _ _).alloc (Nat.le_refl _) _).drew).trans (HB2.out.mono (by simp))
  have HW : Hid _ := hb2
  clear hb2
  simp only [show 2 + 1 = 3 from rfl] at ho2
  go_wp2_with fail
  go_region_with (go_at_call 78; refine (HF.out _ _ _ (bl_drew (bl_alloc HW.out _))).mono ?_; rintro e w3 ⟨rfl, h3⟩; have hb3 := (HB2.out.trans ((bl_drew (bl_alloc (Below.refl w2.heap.size w2) _)).mono HB2.out.size)).trans (h3.mono (Nat.le_trans HB2.out.size (by simp))); obtain ⟨q0, q1, q2, q3, q4, q5, q6, f1, hB⟩ := own7 (r := 41) ((Below.drew (Below.refl (w.alloc (.cells z7 41)).heap.size (w.alloc (.cells z7 41)))).trans hb3); have HB23 := (bl_drew (bl_alloc (Below.refl w2.heap.size w2) _)).trans (h3.mono (by simp)); have HA : Hid _ := Lx.own_mono (Lx.own_below HO.out HB23) (show w.heap.size + 1 ≤ _ by simp); have HB3 : Hid _ := hB; clear h3 hB hb3 HB23)
  all_goals go_wp2
  all_goals refine bodyPost_ret (v := .tuple #[zv, .bool false]) (by simp [results, Tryz.results60, go_sem, q0, q1, q2, q3, q4, q5, q6]) rfl ⟨rfl, ?_⟩
  all_goals
    iterate 7 refine Below.setCell ?_ (by simp) _
    exact HB3.out
end Go.Proofs.YtadgnafafdfioaaGreatDoor.Rd
/-
  THE WORDS BEHIND =, WHATEVER THEY ARE. Conditions: each theorem's own.
-/
namespace Go.Proofs.YtadgnafafdfioaaGreatDoor.Rd
set_option maxRecDepth 100000
open Go.RowKit Nm
set_option linter.unusedVariables false
set_option linter.unusedSimpArgs false

/-- what is told of an operation with what stands behind its names -/
def Ff (w' : World) (B : Nat) (a1 : Option Addr) (m1 c1 : Nat) (o : Option Sm) (e : Ending) : Prop :=
  match o with
  | none => e = .returned (.tuple #[zv, .bool false])
  | some s => ∃ a2 m2 c2, e = .returned (.tuple #[sv s.name s.op (.slice a1 m1 c1) (.slice a2 m2 c2) s.k s.n nils, .bool true]) ∧ Od w' B (.slice a2 m2 c2) s.dims
theorem fin_data {name op : ByteArray} {args rest : List ByteArray} {s : Sm} (h : fin name op args rest = some s) : s.data = [] := by
  unfold fin at h
  split at h
  · cases hd : dms rest with
    | none => simp [hd] at h
    | some d => simp [hd] at h; subst h; rfl
  · split at h
    · split at h
      · split at h
        · cases h; rfl
        · cases h
      · cases h
    · split at h
      · split at h
        · split at h
          · split at h
            · cases h; rfl
            · cases h
          · cases h
        · cases h
      · split at h
        · cases h; rfl
        · cases h
theorem fin_1 {name op : ByteArray} {args rest : List ByteArray} (h : isw op lScale = true) : fin name op args rest = match rest with | [x] => if ra x then some ⟨name, op, args, [], x, 0, []⟩ else none | _ => none := by
  unfold fin
  rw [show knd op = 1 by rw [isw_eq h]; decide, if_neg (by decide), if_pos rfl]
  match rest with
  | [] => rfl
  | [x] => rfl
  | x :: y :: l => rfl
theorem fin_2 {name op : ByteArray} {args rest : List ByteArray} (h : isw op lPower = true) : fin name op args rest = match rest with | [x] => (match num x.data.toList with | some n => if n ≤ 6 then some ⟨name, op, args, [], em, n, []⟩ else none | none => none) | _ => none := by
  unfold fin
  rw [show knd op = 2 by rw [isw_eq h]; decide, if_neg (by decide), if_neg (by decide), if_pos rfl]
  match rest with
  | [] => rfl
  | [x] => rfl
  | x :: y :: l => rfl
theorem fin_3 {name op : ByteArray} {args rest : List ByteArray} (h : isw op lReshape = true ∨ isw op lSpread = true) : fin name op args rest = (dms rest).map fun d => ⟨name, op, args, d, em, 0, []⟩ := by
  unfold fin
  rw [show knd op = 3 by rcases h with h | h <;> (rw [isw_eq h]; decide), if_pos rfl]
theorem fin_0 {name op : ByteArray} {args rest : List ByteArray} (h0 : isw op lScale = false) (h1 : isw op lPower = false) (h2 : isw op lReshape = false) (h3 : isw op lSpread = false) : fin name op args rest = if rest = [] then some ⟨name, op, args, [], em, 0, []⟩ else none := by
  unfold fin
  rw [show knd op = 0 by unfold knd; rw [h0, h1, h2, h3]; rfl, if_neg (by decide), if_neg (by decide), if_neg (by decide)]

theorem finished_any (name op : ByteArray) (args : List ByteArray) (a1 : Option Addr) (m1 c1 : Nat) (bo : Option Addr) (rest : List ByteArray) (d : Nat) (aF aZ : Addr) (w : World) (hE : Er w aF aZ) (hR : Row w bo (txts rest)) (hs : ∀ x ∈ rest, x.size ≤ 200000) :
    Calls Tryz.prog 78 #[sv name op (.slice a1 m1 c1) nils em 0 nils, .slice bo rest.length d] w fun e w' => Ff w' w.heap.size a1 m1 c1 (fin name op args rest) e ∧ Below w.heap.size w w' := by
  have nilO : ∀ w', Od w' w.heap.size (.slice none 0 0) [] := fun w' => Od.nil _ _
  cases h3 : isw op lReshape || isw op lSpread with
  | true =>
    have h3' : isw op lReshape = true ∨ isw op lSpread = true := by simpa using h3
    rw [fin_3 h3']
    have hop : op = ⟨lReshape.toArray⟩ ∨ op = ⟨lSpread.toArray⟩ := by
      rcases h3' with h | h
      · exact Or.inl (isw_eq h)
      · exact Or.inr (isw_eq h)
    cases hd : dms rest with
    | none =>
      obtain ⟨e1, e2⟩ := dm_no hd
      have := fin_dims name op hop a1 m1 c1 bo rest d w hR false [] e1 e2
      refine this.mono ?_
      rintro e w' ⟨h1, h2⟩
      exact ⟨h1, h2⟩
    | some dv =>
      obtain ⟨e1, e2⟩ := dm_yes hd
      have := fin_dims name op hop a1 m1 c1 bo rest d w hR true dv e1 e2
      refine this.mono ?_
      rintro e w' ⟨h1, h2⟩
      obtain ⟨ud, rfl, hO⟩ := h1
      obtain ⟨ao, cap, rfl, _⟩ := hO.form
      exact ⟨⟨_, _, _, rfl, hO⟩, h2⟩
  | false =>
    rw [Bool.or_eq_false_iff] at h3
    cases h1 : isw op lScale with
    | true =>
      rw [fin_1 h1]
      obtain rfl := isw_eq h1
      match rest, hR, hs with
      | [], _, _ =>
        exact (fin_long name _ (Or.inl rfl) a1 m1 c1 bo 0 d w (by decide)).mono fun e w' h => h
      | [x], hR, hs =>
        obtain ⟨b, off, rfl, hc⟩ := hR 0 (.string x) rfl
        rw [Nat.add_zero] at hc
        obtain ⟨r, hr⟩ : ∃ r, ra x = r := ⟨_, rfl⟩
        refine (fin_scale name a1 m1 c1 b off x d aF aZ w hE (hs x (by simp)) hc r hr).mono ?_
        rintro e w' ⟨rfl, h2⟩
        refine ⟨?_, h2⟩
        show Ff _ _ _ _ _ (if ra x = true then _ else _) _
        rw [hr]
        cases r with
        | true => exact ⟨none, 0, 0, rfl, nilO _⟩
        | false => rfl
      | x :: y :: l, _, _ =>
        exact (fin_long name _ (Or.inl rfl) a1 m1 c1 bo (x :: y :: l).length d w (by simp; omega)).mono fun e w' h => h
    | false =>
      cases h2 : isw op lPower with
      | true =>
        rw [fin_2 h2]
        obtain rfl := isw_eq h2
        match rest, hR, hs with
        | [], _, _ =>
          exact (fin_long name _ (Or.inr rfl) a1 m1 c1 bo 0 d w (by decide)).mono fun e w' h => h
        | [x], hR, hs =>
          obtain ⟨b, off, rfl, hc⟩ := hR 0 (.string x) rfl
          rw [Nat.add_zero] at hc
          cases hn : num x.data.toList with
          | none =>
            obtain ⟨e1, e2⟩ := numv_no hn
            refine (fin_power name a1 m1 c1 b off x d w hc 0 false true e1 e2 (by decide)).mono ?_
            rintro e w' ⟨rfl, h2⟩
            refine ⟨?_, h2⟩
            show Ff _ _ _ _ _ (match num x.data.toList with | some n => _ | none => _) _
            rw [hn]
            rfl
          | some v =>
            obtain ⟨e1, e2⟩ := numv_of hn
            obtain ⟨t, ht⟩ : ∃ t, decide (v ≤ 6) = t := ⟨_, rfl⟩
            refine (fin_power name a1 m1 c1 b off x d w hc v true t e1 e2 ht).mono ?_
            rintro e w' ⟨rfl, h2⟩
            refine ⟨?_, h2⟩
            show Ff _ _ _ _ _ (match num x.data.toList with | some n => _ | none => _) _
            rw [hn]
            show Ff _ _ _ _ _ (if v ≤ 6 then _ else _) _
            cases t with
            | true =>
              rw [if_pos (of_decide_eq_true ht)]
              exact ⟨none, 0, 0, rfl, nilO _⟩
            | false =>
              rw [if_neg (of_decide_eq_false ht)]
              rfl
        | x :: y :: l, _, _ =>
          exact (fin_long name _ (Or.inr rfl) a1 m1 c1 bo (x :: y :: l).length d w (by simp; omega)).mono fun e w' h => h
      | false =>
        rw [fin_0 h1 h2 h3.1 h3.2]
        cases rest with
        | nil =>
          refine (fin_plain name op a1 m1 c1 bo 0 d w h1 h2 h3.1 h3.2 true (by decide)).mono ?_
          rintro e w' ⟨rfl, h⟩
          exact ⟨⟨none, 0, 0, rfl, nilO _⟩, h⟩
        | cons x l =>
          refine (fin_plain name op a1 m1 c1 bo (x :: l).length d w h1 h2 h3.1 h3.2 false (by simp; omega)).mono ?_
          rintro e w' ⟨rfl, h⟩
          exact ⟨rfl, h⟩

theorem row_ad {w : World} {b off c : Nat} {op : ByteArray} {parts : List ByteArray} (h : Row w (some ⟨b, off, none⟩) (txts (op :: parts))) (hc : (op :: parts).length ≤ c) {A : Addr} (hA : Ad b off c A) : Row w (some A) (txts parts) := by
  unfold Ad at hA
  by_cases q : c = 1
  · have : parts = [] := by
      simp only [List.length_cons] at hc
      exact List.eq_nil_of_length_eq_zero (by omega)
    subst this
    exact Row.nil _ _
  · rw [if_neg q] at hA
    cases hA
    exact Row.drop' h 1
theorem row_ae {w : World} {b off c k : Nat} {op : ByteArray} {parts : List ByteArray} (h : Row w (some ⟨b, off, none⟩) (txts (op :: parts))) (hc : (op :: parts).length ≤ c) (hk : k ≤ parts.length) {A : Addr} (hA : Ae b off c k A) : Row w (some A) (txts (parts.drop k)) := by
  obtain ⟨o1, h1, h2⟩ := hA
  have hr := row_ad h hc h1
  by_cases q : c = k + 1
  · have : parts.drop k = [] := List.drop_eq_nil_of_le (by simp only [List.length_cons] at hc; omega)
    rw [this]
    exact Row.nil _ _
  · rw [if_neg q] at h2
    cases h2
    rw [← txts_drop]
    exact Row.drop' hr k
theorem ari_le (x : ByteArray) : ari x = 0 ∨ ari x = 1 ∨ ari x = 2 := by
  unfold ari
  split
  · exact Or.inr (Or.inr rfl)
  · split
    · exact Or.inr (Or.inl rfl)
    · exact Or.inl rfl
theorem opn_no {name op : ByteArray} {parts : List ByteArray} (h : ¬ (nmb name = true ∧ ari op ≠ 0 ∧ ari op ≤ parts.length ∧ (parts.take (ari op)).all nmb = true)) : opn name (op :: parts) = none := by rw [opn_cons, if_neg h]

theorem operation_any (name : ByteArray) (ws : List ByteArray) (ao : Option Addr) (c : Nat) (aF aZ : Addr) (w : World) (hE : Er w aF aZ) (hR : Row w ao (txts ws)) (hl : ws.length ≤ 1000000) (hcap : ws.length ≤ c) (hcm : c ≤ maxLen) (hs : ∀ x ∈ ws, x.size ≤ 200000) :
    Calls Tryz.prog 60 #[.string name, .slice ao ws.length c] w fun e w' => Fo w' w.heap.size (opn name ws) e ∧ Below w.heap.size w w' := by
  cases hn : nmb name with
  | false =>
    have e0 : opn name ws = none := by
      cases ws with
      | nil => rfl
      | cons op parts => exact opn_no (fun h => by rw [hn] at h; cases h.1)
    rw [e0]
    exact (op_name name ao ws.length c w hn).mono fun e w' h => h
  | true =>
    cases ws with
    | nil => exact (op_empty name ao c w hn).mono fun e w' h => h
    | cons op parts =>
      obtain ⟨b, off, rfl, hc⟩ := hR 0 (.string op) rfl
      rw [Nat.add_zero] at hc
      have hl' : parts.length ≤ 1000000 := by simp only [List.length_cons] at hl; omega
      have hcap' : parts.length + 1 ≤ c := hcap
      have hsp : ∀ k, ∀ x ∈ parts.drop k, x.size ≤ 200000 := fun k x hx => hs x (List.mem_cons_of_mem _ (List.mem_of_mem_drop hx))
      by_cases h0 : ari op = 0
      · rw [opn_no (fun h => h.2.1 h0)]
        exact (op_none name op b off parts.length c w hn hl' hcap' hcm hc h0).mono fun e w' h => h
      · by_cases hsh : ari op ≤ parts.length
        · have HM : ∀ k, k ≤ parts.length → ∀ r, (parts.take k).all nmb = r → ∀ A, Ad b off c A → ∀ v, Below w.heap.size w v → Calls Tryz.prog 77 #[.slice (some A) k (c - 1), .func (.func 49) #[] #[]] v fun e w' => e = .returned (.bool r) ∧ w' = v := by
            intro k hk r hr A hA v hv
            have hlen : (parts.take k).length = k := by rw [List.length_take]; omega
            have := allName_any (some A) (parts.take k) (c - 1) v (by omega) (by rw [← txts_take]; exact Row.take' ((row_ad hR hcap hA).below hv) k)
            rw [hlen, hr] at this
            exact this
          have HC : ∀ k, k ≤ parts.length → ∀ A, Ad b off c A → ∀ v, Below w.heap.size w v → Calls Tryz.prog 66 #[.slice (some A) k (c - 1)] v fun e w' => ∃ u, e = .returned u ∧ w'.ownsRow v.heap.size 9 1 u (parts.take k).length (txts (parts.take k)) ∧ Below v.heap.size v w' := by
            intro k hk A hA v hv
            have hlen : (parts.take k).length = k := by rw [List.length_take]; omega
            have := clone_any (some A) (parts.take k) (c - 1) v (by omega) (by rw [← txts_take]; exact Row.take' ((row_ad hR hcap hA).below hv) k)
            rw [hlen] at this ⊢
            exact this
          have HF : ∀ k, k ≤ parts.length → ∀ A, Ae b off c k A → ∀ a1 c1 v, Below w.heap.size w v → Calls Tryz.prog 78 #[sv name op (.slice a1 k c1) nils em 0 nils, .slice (some A) (parts.length - k) (c - 1 - k)] v fun e w' => Ff w' v.heap.size a1 k c1 (fin name op (parts.take k) (parts.drop k)) e ∧ Below v.heap.size v w' := by
            intro k hk A hA a1 c1 v hv
            have := finished_any name op (parts.take k) a1 k c1 (some A) (parts.drop k) (c - 1 - k) aF aZ v (hE.below hv) ((row_ae hR hcap hk hA).below hv) (hsp k)
            rw [List.length_drop] at this
            exact this
          cases hall : (parts.take (ari op)).all nmb with
          | false =>
            rw [opn_no (fun h => by rw [hall] at h; cases h.2.2.2)]
            rcases ari_le op with h | h | h
            · exact absurd h h0
            · rw [h] at hsh hall
              exact (op_names1 name op b off parts.length c w hn hl' hcap' hcm hc h hsh (HM 1 hsh false hall)).mono fun e w' h => h
            · rw [h] at hsh hall
              exact (op_names2 name op b off parts.length c w hn hl' hcap' hcm hc h hsh (HM 2 hsh false hall)).mono fun e w' h => h
          | true =>
            rw [opn_cons, if_pos ⟨hn, h0, hsh, hall⟩]
            cases hf : fin name op (parts.take (ari op)) (parts.drop (ari op)) with
            | none =>
              rcases ari_le op with h | h | h
              · exact absurd h h0
              · rw [h] at hsh hall hf
                exact (op_no1 name op b off parts.length c w hn hl' hcap' hcm hc h hsh (HM 1 hsh true hall) (parts.take 1) (by rw [List.length_take]; omega) (HC 1 hsh) (fun A hA a1 c1 v hv => by have := HF 1 hsh A hA a1 c1 v hv; rw [hf] at this; exact this)).mono fun e w' h => h
              · rw [h] at hsh hall hf
                exact (op_no2 name op b off parts.length c w hn hl' hcap' hcm hc h hsh (HM 2 hsh true hall) (parts.take 2) (by rw [List.length_take]; omega) (HC 2 hsh) (fun A hA a1 c1 v hv => by have := HF 2 hsh A hA a1 c1 v hv; rw [hf] at this; exact this)).mono fun e w' h => h
            | some s =>
              have hsa := (fin_name hf).2.2
              have hsd := fin_data hf
              rcases ari_le op with h | h | h
              · exact absurd h h0
              · rw [h] at hsh hall hf hsa
                exact (op_yes1 name op b off parts.length c w hn hl' hcap' hcm hc h hsh (HM 1 hsh true hall) (parts.take 1) (by rw [List.length_take]; omega) (HC 1 hsh) s hsa hsd (fun A hA a1 c1 v hv => by
                  have := HF 1 hsh A hA a1 c1 v hv
                  rw [hf] at this
                  refine this.mono ?_
                  rintro e w' ⟨⟨a2, m2, c2, h1, h2⟩, h3⟩
                  exact ⟨a2, m2, c2, h1, h2, h3⟩)).mono fun e w' h => h
              · rw [h] at hsh hall hf hsa
                exact (op_yes2 name op b off parts.length c w hn hl' hcap' hcm hc h hsh (HM 2 hsh true hall) (parts.take 2) (by rw [List.length_take]; omega) (HC 2 hsh) s hsa hsd (fun A hA a1 c1 v hv => by
                  have := HF 2 hsh A hA a1 c1 v hv
                  rw [hf] at this
                  refine this.mono ?_
                  rintro e w' ⟨⟨a2, m2, c2, h1, h2⟩, h3⟩
                  exact ⟨a2, m2, c2, h1, h2, h3⟩)).mono fun e w' h => h
        · rw [opn_no (fun h => hsh h.2.2.1)]
          rcases ari_le op with h | h | h
          · exact absurd h h0
          · exact (op_short1 name op b off parts.length c w hn hl' hcap' hcm hc h (by omega)).mono fun e w' h => h
          · exact (op_short2 name op b off parts.length c w hn hl' hcap' hcm hc h (by omega)).mono fun e w' h => h
end Go.Proofs.YtadgnafafdfioaaGreatDoor.Rd
/-
  A STATEMENT OF ITS OWN WORD: param, input, loss. Conditions: each theorem's own.
-/
namespace Go.Proofs.YtadgnafafdfioaaGreatDoor.Rd
set_option maxRecDepth 100000
open Go.RowKit Nm
set_option linter.unusedVariables false
set_option linter.unusedSimpArgs false

/-- where the words behind the first k stand -/
def Ag (b off c k : Nat) (A : Addr) : Prop := (if c = k then some (⟨b, off, none⟩ : Addr) else some ⟨b, off + k, none⟩) = some A
theorem ag_some (b off c k : Nat) : ∃ o1, (if c = k then some (⟨b, off, none⟩ : Addr) else some ⟨b, off + k, none⟩) = some ⟨b, o1, none⟩ := by
  by_cases q : c = k
  · exact ⟨off, if_pos q⟩
  · exact ⟨off + k, if_neg q⟩
theorem row_ag {w : World} {b off c k : Nat} {ws : List ByteArray} (h : Row w (some ⟨b, off, none⟩) (txts ws)) (hc : ws.length ≤ c) {A : Addr} (hA : Ag b off c k A) : Row w (some A) (txts (ws.drop k)) := by
  unfold Ag at hA
  by_cases q : c = k
  · rw [List.drop_eq_nil_of_le (by omega)]
    exact Row.nil _ _
  · rw [if_neg q] at hA
    cases hA
    rw [← txts_drop]
    exact Row.drop' h k
theorem own_one (w : World) (base : Nat) (e : TypeId) (x : Value) (hb : base ≤ w.heap.size) : (w.alloc (.cells #[x] e)).ownsRow base e 1 (.slice (some ⟨w.heap.size, 0, none⟩) 1 1) 1 [x] :=
  ⟨rfl, .inr ⟨w.heap.size, 1, #[x], rfl, hb, heap_alloc_new w _, Nat.le_refl _, by unfold maxLen; omega, rfl, rfl⟩⟩
theorem So.set {w : World} {B : Nat} {v : Value} {s : Sm} (h : So w B v s) {p : Addr} (hp : p.block < B) (x : Value) : So (w.setCell p x) B v s := by
  obtain ⟨ua, ud, ut, e, h1, h2, h3⟩ := h
  exact ⟨ua, ud, ut, e, own_set h1 hp x, own_set h2 hp x, own_set h3.1 hp x, h3.2⟩
theorem So.form {w : World} {B : Nat} {v : Value} {s : Sm} (h : So w B v s) : ∃ a1 m1 c1 a2 m2 c2 a3 m3 c3, v = sv s.name s.op (.slice a1 m1 c1) (.slice a2 m2 c2) s.k s.n (.slice a3 m3 c3) := by
  obtain ⟨ua, ud, ut, e, h1, h2, h3⟩ := h
  obtain ⟨a1, c1, rfl, _⟩ := h1.form
  obtain ⟨a2, c2, rfl, _⟩ := h2.form
  obtain ⟨a3, c3, rfl, _⟩ := h3.1.form
  exact ⟨_, _, _, _, _, _, _, _, _, e⟩
set_option maxHeartbeats 1000000 in
theorem giv_no1 (b off n c : Nat) (a x : ByteArray) (w : World) (hl : n ≤ 1000000) (hcap : n + 2 ≤ c) (hcm : c ≤ maxLen) (hc0 : w.cell? ⟨b, off, none⟩ = some (.string a)) (hc1 : w.cell? ⟨b, off + 1, none⟩ = some (.string x)) (dv : List Int) (hD : ∀ A, Ag b off c 2 A → ∀ v, Below w.heap.size w v → Calls Tryz.prog 79 #[.slice (some A) n (c - 2)] v fun e w' => ∃ u, e = .returned (.tuple #[u, .bool false]) ∧ Od w' v.heap.size u dv ∧ Below v.heap.size v w') :
    Calls Tryz.prog 61 #[.slice (some ⟨b, off, none⟩) (n + 2) c] w fun e w' => (e = .returned (.tuple #[zv, .bool false])) ∧ Below w.heap.size w w' := by
  obtain ⟨o1, ho1⟩ := ag_some b off c 2
  have HD : Hid _ := hD ⟨b, o1, none⟩ ho1
  clear hD
  have hl0 : b < w.heap.size := row_lt hc0
  go_enter Tryz.func61, Tryz.ntmps61
  go_wp2_with fail
  refine (HD.out _ ((Below.refl _ _).alloc (Nat.le_refl _) _)).mono ?_
  rintro e w1 ⟨u, rfl, hO, h1⟩
  have hx1 : w1.cell? ⟨b, off + 1, none⟩ = some (.string x) := cell_below (((Below.refl _ _).alloc (Nat.le_refl _) _).trans (h1.mono (by simp))) hc1
  have hx0 : w1.cell? ⟨b, off, none⟩ = some (.string a) := cell_below (((Below.refl _ _).alloc (Nat.le_refl _) _).trans (h1.mono (by simp))) hc0
  clear hc0 hc1
  have HO : Hid _ := Lx.own_mono hO (show w.heap.size + 1 ≤ _ by simp)
  obtain ⟨a2, c2, rfl, -⟩ := hO.form
  clear hO
  obtain ⟨q0, q1, q2, q3, q4, q5, q6, f1, hB⟩ := own7 (r := 41) h1
  have HB : Hid _ := hB
  clear hB h1
  clear hx0 hx1 hcap hcm ho1
  go_wp2
  refine bodyPost_ret (v := .tuple #[zv, .bool false]) ?_ rfl ⟨rfl, ?_⟩
  · simp [results, Tryz.results61, go_sem, q0, q1, q2, q3, q4, q5, q6]
  · iterate 7 refine Below.setCell ?_ (by simp) _
    exact HB.out
set_option maxHeartbeats 1000000 in
theorem giv_no2 (b off n c : Nat) (a x : ByteArray) (w : World) (hl : n ≤ 1000000) (hcap : n + 2 ≤ c) (hcm : c ≤ maxLen) (hc0 : w.cell? ⟨b, off, none⟩ = some (.string a)) (hc1 : w.cell? ⟨b, off + 1, none⟩ = some (.string x)) (hn : nmb x = false) (dv : List Int) (hD : ∀ A, Ag b off c 2 A → ∀ v, Below w.heap.size w v → Calls Tryz.prog 79 #[.slice (some A) n (c - 2)] v fun e w' => ∃ u, e = .returned (.tuple #[u, .bool true]) ∧ Od w' v.heap.size u dv ∧ Below v.heap.size v w') :
    Calls Tryz.prog 61 #[.slice (some ⟨b, off, none⟩) (n + 2) c] w fun e w' => (e = .returned (.tuple #[zv, .bool false])) ∧ Below w.heap.size w w' := by
  obtain ⟨o1, ho1⟩ := ag_some b off c 2
  have HD : Hid _ := hD ⟨b, o1, none⟩ ho1
  clear hD
  have hl0 : b < w.heap.size := row_lt hc0
  have hN := Lx.name_any x
  unfold nmb at hn
  rw [hn] at hN
  go_enter Tryz.func61, Tryz.ntmps61
  go_wp2_with fail
  refine (HD.out _ ((Below.refl _ _).alloc (Nat.le_refl _) _)).mono ?_
  rintro e w1 ⟨u, rfl, hO, h1⟩
  have hx1 : w1.cell? ⟨b, off + 1, none⟩ = some (.string x) := cell_below (((Below.refl _ _).alloc (Nat.le_refl _) _).trans (h1.mono (by simp))) hc1
  have hx0 : w1.cell? ⟨b, off, none⟩ = some (.string a) := cell_below (((Below.refl _ _).alloc (Nat.le_refl _) _).trans (h1.mono (by simp))) hc0
  clear hc0 hc1
  have HO : Hid _ := Lx.own_mono hO (show w.heap.size + 1 ≤ _ by simp)
  obtain ⟨a2, c2, rfl, -⟩ := hO.form
  clear hO
  obtain ⟨q0, q1, q2, q3, q4, q5, q6, f1, hB⟩ := own7 (r := 41) h1
  have HB : Hid _ := hB
  clear hB h1
  go_wp2_with fail
  refine (hN _).mono ?_
  rintro e w2 ⟨rfl, rfl⟩
  clear hx0 hx1 hcap hcm ho1
  go_wp2
  refine bodyPost_ret (v := .tuple #[zv, .bool false]) ?_ rfl ⟨rfl, ?_⟩
  · simp [results, Tryz.results61, go_sem, q0, q1, q2, q3, q4, q5, q6]
  · iterate 7 refine Below.setCell ?_ (by simp) _
    exact HB.out
set_option maxHeartbeats 1000000 in
theorem giv_yes (b off n c : Nat) (a x : ByteArray) (w : World) (hl : n ≤ 1000000) (hcap : n + 2 ≤ c) (hcm : c ≤ maxLen) (hc0 : w.cell? ⟨b, off, none⟩ = some (.string a)) (hc1 : w.cell? ⟨b, off + 1, none⟩ = some (.string x)) (hn : nmb x = true) (dv : List Int) (hD : ∀ A, Ag b off c 2 A → ∀ v, Below w.heap.size w v → Calls Tryz.prog 79 #[.slice (some A) n (c - 2)] v fun e w' => ∃ u, e = .returned (.tuple #[u, .bool true]) ∧ Od w' v.heap.size u dv ∧ Below v.heap.size v w') :
    Calls Tryz.prog 61 #[.slice (some ⟨b, off, none⟩) (n + 2) c] w fun e w' => (∃ u, e = .returned (.tuple #[sv x a nils u em 0 nils, .bool true]) ∧ Od w' w.heap.size u dv) ∧ Below w.heap.size w w' := by
  obtain ⟨o1, ho1⟩ := ag_some b off c 2
  have HD : Hid _ := hD ⟨b, o1, none⟩ ho1
  clear hD
  have hl0 : b < w.heap.size := row_lt hc0
  have hN := Lx.name_any x
  unfold nmb at hn
  rw [hn] at hN
  go_enter Tryz.func61, Tryz.ntmps61
  go_wp2_with fail
  refine (HD.out _ ((Below.refl _ _).alloc (Nat.le_refl _) _)).mono ?_
  rintro e w1 ⟨u, rfl, hO, h1⟩
  have hx1 : w1.cell? ⟨b, off + 1, none⟩ = some (.string x) := cell_below (((Below.refl _ _).alloc (Nat.le_refl _) _).trans (h1.mono (by simp))) hc1
  have hx0 : w1.cell? ⟨b, off, none⟩ = some (.string a) := cell_below (((Below.refl _ _).alloc (Nat.le_refl _) _).trans (h1.mono (by simp))) hc0
  clear hc0 hc1
  have HO : Hid _ := Lx.own_mono hO (show w.heap.size + 1 ≤ _ by simp)
  obtain ⟨a2, c2, rfl, -⟩ := hO.form
  clear hO
  obtain ⟨q0, q1, q2, q3, q4, q5, q6, f1, hB⟩ := own7 (r := 41) h1
  have HB : Hid _ := hB
  clear hB h1
  go_wp2_with fail
  refine (hN _).mono ?_
  rintro e w2 ⟨rfl, rfl⟩
  go_wp2_with fail
  go_region
  go_wp2
  refine bodyPost_ret (v := .tuple #[sv x a nils (.slice a2 dv.length c2) em 0 nils, .bool true]) ?_ rfl ⟨⟨_, rfl, ?_⟩, ?_⟩
  · simp [results, Tryz.results61, go_sem, q0, q1, q2, q3, q4, q5, q6]
  · refine Lx.own_mono (base := w.heap.size + 1) ?_ (by omega)
    refine Lx.own_below ?_ (Below.drew (Below.refl _ _))
    iterate 7 refine own_set ?_ (by simp) _
    exact HO.out
  · refine Below.drew ?_
    iterate 7 refine Below.setCell ?_ (by simp) _
    exact HB.out
theorem loss_long (ao : Option Addr) (n c : Nat) (w : World) (hn : ((n : Int) != 2) = true) : Calls Tryz.prog 63 #[.slice ao n c] w fun e w' => e = .returned (.tuple #[zv, .bool false]) ∧ Below w.heap.size w w' := by
  go_enter Tryz.func63, Tryz.ntmps63
  go_wp2
  refine bodyPost_ret (v := .tuple #[zv, .bool false]) ?_ rfl ⟨rfl, ?_⟩
  · simp [results, Tryz.results63, go_sem]
  · exact (Below.refl _ _).alloc (Nat.le_refl _) _
theorem loss_name (b off c : Nat) (a x : ByteArray) (w : World) (hcap : 2 ≤ c) (hcm : c ≤ maxLen) (hc0 : w.cell? ⟨b, off, none⟩ = some (.string a)) (hc1 : w.cell? ⟨b, off + 1, none⟩ = some (.string x)) (hn : nmb x = false) : Calls Tryz.prog 63 #[.slice (some ⟨b, off, none⟩) 2 c] w fun e w' => e = .returned (.tuple #[zv, .bool false]) ∧ Below w.heap.size w w' := by
  have hN := Lx.name_any x
  unfold nmb at hn
  rw [hn] at hN
  have hl0 : b < w.heap.size := row_lt hc0
  go_enter Tryz.func63, Tryz.ntmps63
  go_wp2_with fail
  refine (hN _).mono ?_
  rintro e w2 ⟨rfl, rfl⟩
  go_wp2
  refine bodyPost_ret (v := .tuple #[zv, .bool false]) ?_ rfl ⟨rfl, ?_⟩
  · simp [results, Tryz.results63, go_sem]
  · exact (Below.refl _ _).alloc (Nat.le_refl _) _
set_option maxHeartbeats 1000000 in
theorem loss_yes (b off c : Nat) (a x : ByteArray) (w : World) (hcap : 2 ≤ c) (hcm : c ≤ maxLen) (hc0 : w.cell? ⟨b, off, none⟩ = some (.string a)) (hc1 : w.cell? ⟨b, off + 1, none⟩ = some (.string x)) (hn : nmb x = true) : Calls Tryz.prog 63 #[.slice (some ⟨b, off, none⟩) 2 c] w fun e w' => (∃ u, e = .returned (.tuple #[sv em a u nils em 0 nils, .bool true]) ∧ Ob w' w.heap.size u [x]) ∧ Below w.heap.size w w' := by
  have hN := Lx.name_any x
  unfold nmb at hn
  rw [hn] at hN
  have hl0 : b < w.heap.size := row_lt hc0
  go_enter Tryz.func63, Tryz.ntmps63
  go_wp2_with fail
  refine (hN _).mono ?_
  rintro e w2 ⟨rfl, rfl⟩
  go_wp2_with fail
  go_region
  go_wp2
  refine bodyPost_ret (v := .tuple #[sv em a (.slice (some ⟨w.heap.size + 1, 0, none⟩) 1 1) nils em 0 nils, .bool true]) ?_ rfl ⟨⟨_, rfl, ?_⟩, ?_⟩
  · simp [results, Tryz.results63, go_sem]
  · have m2 := own_one (w.alloc (.cells #[.string ⟨#[]⟩, .string a, .slice (some ⟨w.heap.size + 1, 0, none⟩) 1 1, .slice none 0 0, .string ⟨#[]⟩, .int .i64 0, .slice none 0 0] 41)) w.heap.size 9 (.string x) (by simp)
    rw [show (w.alloc (.cells #[.string ⟨#[]⟩, .string a, .slice (some ⟨w.heap.size + 1, 0, none⟩) 1 1, .slice none 0 0, .string ⟨#[]⟩, .int .i64 0, .slice none 0 0] 41)).heap.size = w.heap.size + 1 by simp] at m2
    exact Lx.own_below m2 (Below.drew (Below.refl _ _))
  · exact (((Below.refl _ _).alloc (Nat.le_refl _) _).alloc (by simp) _).drew
end Go.Proofs.YtadgnafafdfioaaGreatDoor.Rd
