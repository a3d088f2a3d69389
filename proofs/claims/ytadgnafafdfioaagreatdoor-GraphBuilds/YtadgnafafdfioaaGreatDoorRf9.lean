/-
  AN OPERATION's STATEMENT, WITH WHAT STANDS BEHIND ITS NAMES. Conditions: each theorem's own.
-/
import Derived.Test.YtadgnafafdfioaaGreatDoorRq
namespace Go.Proofs.YtadgnafafdfioaaGreatDoor.Rd
set_option maxRecDepth 100000
open Go.RowKit Nm
set_option linter.unusedVariables false
set_option linter.unusedSimpArgs false

/-- a statement's value -/
abbrev sv (name op : ByteArray) (ua ud : Value) (k : ByteArray) (n : Nat) (ut : Value) : Value := .agg #[.string name, .string op, ua, ud, .string k, .int .i64 (n : Int), ut]
abbrev nils : Value := .slice none 0 0
abbrev zv : Value := .agg #[.string ⟨#[]⟩, .string ⟨#[]⟩, .slice none 0 0, .slice none 0 0, .string ⟨#[]⟩, .int .i64 0, .slice none 0 0]

theorem own2 {w v : World} {a b : Array Value} {r q : TypeId} (h : Below ((w.alloc (.cells a r)).alloc (.cells b q)).heap.size ((w.alloc (.cells a r)).alloc (.cells b q)) v) :
    (∀ i, v.cell? ⟨w.heap.size, i, none⟩ = a[i]?) ∧ (∀ i, v.cell? ⟨w.heap.size + 1, i, none⟩ = b[i]?) ∧ (∀ i, v.frozen? ⟨w.heap.size, i, none⟩ = false) ∧ (∀ i, v.frozen? ⟨w.heap.size + 1, i, none⟩ = false) ∧ Below w.heap.size w v := by
  obtain ⟨o1, o2, o3⟩ := own1 h
  rw [show (w.alloc (.cells a r)).heap.size = w.heap.size + 1 by simp] at o1 o2
  obtain ⟨p1, p2, p3⟩ := own1 o3
  exact ⟨p1, o1, p2, o2, p3⟩
theorem grown_set (w : World) (p : Addr) (x : Value) : w.grownBy (w.setCell p x) (some p.block) := by
  have h := (Below.refl (w.heap.size) w)
  refine ⟨by first | rfl | simp, by first | rfl | simp, by first | rfl | simp, by simp, fun k hk hne => ?_⟩
  exact Below.heap_setCell _ _ _ _ (fun e => hne (by rw [e]))
theorem own_set {w : World} {base e size n : Nat} {v : Value} {xs : List Value} (h : w.ownsRow base e size v n xs) {p : Addr} (hp : p.block < base) (x : Value) : (w.setCell p x).ownsRow base e size v n xs := by
  refine h.kept (grown_set w p x) ?_
  cases hv : v.ownBlock with
  | none => exact Or.inl rfl
  | some k =>
    right
    intro e
    have := (h.lt k hv).1
    cases e
    omega

set_option maxHeartbeats 1000000 in
theorem fin_dims (name op : ByteArray) (hop : op = ⟨lReshape.toArray⟩ ∨ op = ⟨lSpread.toArray⟩) (a1 : Option Addr) (m1 c1 : Nat) (bo : Option Addr) (rest : List ByteArray) (d : Nat) (w : World) (hR : Row w bo (txts rest)) (r : Bool) (dv : List Int) (hd : dmo rest = r) (hv : dmv rest = dv) :
    Calls Tryz.prog 78 #[sv name op (.slice a1 m1 c1) nils em 0 nils, .slice bo rest.length d] w fun e w' =>
      (if r then ∃ ud, e = .returned (.tuple #[sv name op (.slice a1 m1 c1) ud em 0 nils, .bool true]) ∧ Od w' w.heap.size ud dv else e = .returned (.tuple #[zv, .bool false])) ∧ Below w.heap.size w w' := by
  have D : ∀ v, Below w.heap.size w v → w.heap.size + 2 ≤ v.heap.size → Calls Tryz.prog 79 #[.slice bo rest.length d] v fun e w' => ∃ u, e = .returned (.tuple #[u, .bool r]) ∧ Od w' (w.heap.size + 2) u dv ∧ Below v.heap.size v w' := by
    intro v hv' hs
    refine (dims_any bo rest d v (hR.below hv')).mono ?_
    rintro e w' ⟨u, e1, e2, e3⟩
    rw [hd] at e1
    rw [hv] at e2
    exact ⟨u, e1, e2.mono hs, e3⟩
  have HD : Hid _ := D
  clear D hd hv hR
  have hc : ∀ o1 o2, Below w.heap.size w ((w.alloc o1).alloc o2) := fun o1 o2 => ((Below.refl _ _).alloc (Nat.le_refl _) _).alloc (by simp) _
  have HC : Hid _ := hc
  clear hc
  rcases hop with rfl | rfl
  · go_enter Tryz.func78, Tryz.ntmps78
    go_wp2_with fail
    refine (HD.out _ (HC.out _ _) (by simp)).mono ?_
    rintro e w1 ⟨u, rfl, hO, h1⟩
    obtain ⟨o1, o2, f1, f2, hB⟩ := own2 h1
    have q0 := o1 0
    have q1 := o1 1
    have q2 := o1 2
    have q3 := o1 3
    have q4 := o1 4
    have q5 := o1 5
    have q6 := o1 6
    have z0 := o2 0
    have z1 := o2 1
    have z2 := o2 2
    have z3 := o2 3
    have z4 := o2 4
    have z5 := o2 5
    have z6 := o2 6
    have g0 := f1 3
    have g1 := f2 0
    simp at q0 q1 q2 q3 q4 q5 q6 z0 z1 z2 z3 z4 z5 z6
    have HB : Hid _ := hB
    clear o1 o2 h1 hB
    have HO : Hid _ := hO
    obtain ⟨ao, cap, rfl, _⟩ := hO.form
    clear hO
    cases r with
    | true =>
      go_wp2
      refine bodyPost_ret (v := .tuple #[sv name _ (.slice a1 m1 c1) (.slice ao dv.length cap) em 0 nils, .bool true]) ?_ rfl ⟨⟨_, rfl, ?_⟩, ?_⟩
      · simp [results, Tryz.results78, go_sem, q0, q1, q2, q3, q4, q5, q6, z0, z1, z2, z3, z4, z5, z6]
      · show World.ownsRow _ _ _ _ _ _ _
        exact Lx.own_mono (base := w.heap.size + 2) (by
          iterate 8 refine own_set ?_ (by simp <;> omega) _
          exact HO.out) (by omega)
      · iterate 8 refine Below.setCell ?_ (by simp) _
        exact HB.out
    | false =>
      go_wp2
      refine bodyPost_ret (v := .tuple #[zv, .bool false]) ?_ rfl ⟨rfl, ?_⟩
      · simp [results, Tryz.results78, go_sem, q0, q1, q2, q3, q4, q5, q6, z0, z1, z2, z3, z4, z5, z6]
      · iterate 8 refine Below.setCell ?_ (by simp) _
        exact HB.out
  · go_enter Tryz.func78, Tryz.ntmps78
    go_wp2_with fail
    refine (HD.out _ (HC.out _ _) (by simp)).mono ?_
    rintro e w1 ⟨u, rfl, hO, h1⟩
    obtain ⟨o1, o2, f1, f2, hB⟩ := own2 h1
    have q0 := o1 0
    have q1 := o1 1
    have q2 := o1 2
    have q3 := o1 3
    have q4 := o1 4
    have q5 := o1 5
    have q6 := o1 6
    have z0 := o2 0
    have z1 := o2 1
    have z2 := o2 2
    have z3 := o2 3
    have z4 := o2 4
    have z5 := o2 5
    have z6 := o2 6
    have g0 := f1 3
    have g1 := f2 0
    simp at q0 q1 q2 q3 q4 q5 q6 z0 z1 z2 z3 z4 z5 z6
    have HB : Hid _ := hB
    clear o1 o2 h1 hB
    have HO : Hid _ := hO
    obtain ⟨ao, cap, rfl, _⟩ := hO.form
    clear hO
    cases r with
    | true =>
      go_wp2
      refine bodyPost_ret (v := .tuple #[sv name _ (.slice a1 m1 c1) (.slice ao dv.length cap) em 0 nils, .bool true]) ?_ rfl ⟨⟨_, rfl, ?_⟩, ?_⟩
      · simp [results, Tryz.results78, go_sem, q0, q1, q2, q3, q4, q5, q6, z0, z1, z2, z3, z4, z5, z6]
      · show World.ownsRow _ _ _ _ _ _ _
        exact Lx.own_mono (base := w.heap.size + 2) (by
          iterate 8 refine own_set ?_ (by simp <;> omega) _
          exact HO.out) (by omega)
      · iterate 8 refine Below.setCell ?_ (by simp) _
        exact HB.out
    | false =>
      go_wp2
      refine bodyPost_ret (v := .tuple #[zv, .bool false]) ?_ rfl ⟨rfl, ?_⟩
      · simp [results, Tryz.results78, go_sem, q0, q1, q2, q3, q4, q5, q6, z0, z1, z2, z3, z4, z5, z6]
      · iterate 8 refine Below.setCell ?_ (by simp) _
        exact HB.out

theorem fin_plain (name op : ByteArray) (a1 : Option Addr) (m1 c1 : Nat) (bo : Option Addr) (n d : Nat) (w : World) (h0 : isw op lScale = false) (h1 : isw op lPower = false) (h2 : isw op lReshape = false) (h3 : isw op lSpread = false) (r : Bool) (hr : ((n : Int) == 0) = r) :
    Calls Tryz.prog 78 #[sv name op (.slice a1 m1 c1) nils em 0 nils, .slice bo n d] w fun e w' => e = .returned (.tuple #[if r then sv name op (.slice a1 m1 c1) nils em 0 nils else zv, .bool r]) ∧ Below w.heap.size w w' := by
  have g0 := isw_l h0
  have g1 := isw_l h1
  have g2 := isw_l h2
  have g3 := isw_l h3
  clear h0 h1 h2 h3
  cases r with
  | true =>
    go_enter Tryz.func78, Tryz.ntmps78
    go_wp2
    refine bodyPost_ret (v := .tuple #[sv name op (.slice a1 m1 c1) nils em 0 nils, .bool true]) ?_ rfl ⟨rfl, ?_⟩
    · simp [results, Tryz.results78, go_sem]
    · exact ((Below.refl _ _).alloc (Nat.le_refl _) _).alloc (by simp) _
  | false =>
    go_enter Tryz.func78, Tryz.ntmps78
    go_wp2
    refine bodyPost_ret (v := .tuple #[zv, .bool false]) ?_ rfl ⟨rfl, ?_⟩
    · simp [results, Tryz.results78, go_sem]
    · exact ((Below.refl _ _).alloc (Nat.le_refl _) _).alloc (by simp) _
/-- neither of the two, and not one word behind -/
theorem fin_long (name op : ByteArray) (hop : op = ⟨lScale.toArray⟩ ∨ op = ⟨lPower.toArray⟩) (a1 : Option Addr) (m1 c1 : Nat) (bo : Option Addr) (n d : Nat) (w : World) (hn : ((n : Int) == 1) = false) :
    Calls Tryz.prog 78 #[sv name op (.slice a1 m1 c1) nils em 0 nils, .slice bo n d] w fun e w' => e = .returned (.tuple #[zv, .bool false]) ∧ Below w.heap.size w w' := by
  rcases hop with rfl | rfl
  · go_enter Tryz.func78, Tryz.ntmps78
    go_wp2
    refine bodyPost_ret (v := .tuple #[zv, .bool false]) ?_ rfl ⟨rfl, ?_⟩
    · simp [results, Tryz.results78, go_sem]
    · exact ((Below.refl _ _).alloc (Nat.le_refl _) _).alloc (by simp) _
  · go_enter Tryz.func78, Tryz.ntmps78
    go_wp2
    refine bodyPost_ret (v := .tuple #[zv, .bool false]) ?_ rfl ⟨rfl, ?_⟩
    · simp [results, Tryz.results78, go_sem]
    · exact ((Below.refl _ _).alloc (Nat.le_refl _) _).alloc (by simp) _

set_option maxHeartbeats 1000000 in
theorem fin_scale (name : ByteArray) (a1 : Option Addr) (m1 c1 : Nat) (b off : Nat) (x : ByteArray) (d : Nat) (aF aZ : Addr) (w : World) (hE : Er w aF aZ) (hx : x.size ≤ 200000) (hc : w.cell? ⟨b, off, none⟩ = some (.string x)) (r : Bool) (hr : ra x = r) :
    Calls Tryz.prog 78 #[sv name ⟨lScale.toArray⟩ (.slice a1 m1 c1) nils em 0 nils, .slice (some ⟨b, off, none⟩) 1 d] w fun e w' =>
      e = .returned (.tuple #[if r then sv name ⟨lScale.toArray⟩ (.slice a1 m1 c1) nils x 0 nils else zv, .bool r]) ∧ Below w.heap.size w w' := by
  have hb : ∀ o1 o2, Below w.heap.size w ((w.alloc o1).alloc o2) := fun o1 o2 => ((Below.refl _ _).alloc (Nat.le_refl _) _).alloc (by simp) _
  have HC : Hid _ := hb
  have hc2 : ∀ o1 o2, ((w.alloc o1).alloc o2).cell? ⟨b, off, none⟩ = some (.string x) := fun o1 o2 => cell_below (hb o1 o2) hc
  have HE : Hid _ := hE
  have HR : Hid _ := hr
  have hlt : b < w.heap.size := row_lt hc
  clear hb hE hr
  go_enter Tryz.func78, Tryz.ntmps78
  go_wp2_with fail
  refine (Right_is x r aF aZ _ (HE.out.below (HC.out _ _)) hx HR.out).mono ?_
  rintro e w1 ⟨rfl, h1⟩
  have hcx : w1.cell? ⟨b, off, none⟩ = some (.string x) := cell_below h1 (hc2 _ _)
  obtain ⟨o1, o2, f1, f2, hB⟩ := own2 h1
  have q0 := o1 0
  have q1 := o1 1
  have q2 := o1 2
  have q3 := o1 3
  have q4 := o1 4
  have q5 := o1 5
  have q6 := o1 6
  have z0 := o2 0
  have z1 := o2 1
  have z2 := o2 2
  have z3 := o2 3
  have z4 := o2 4
  have z5 := o2 5
  have z6 := o2 6
  have g0 := f1 4
  have g1 := f2 0
  simp at q0 q1 q2 q3 q4 q5 q6 z0 z1 z2 z3 z4 z5 z6
  have HB : Hid _ := hB
  clear o1 o2 h1 hB
  clear hc hc2
  cases r with
  | true =>
    go_wp2
    refine bodyPost_ret (v := .tuple #[sv name _ (.slice a1 m1 c1) nils x 0 nils, .bool true]) ?_ rfl ⟨rfl, ?_⟩
    · simp [results, Tryz.results78, go_sem, q0, q1, q2, q3, q4, q5, q6, z0, z1, z2, z3, z4, z5, z6]
    · iterate 8 refine Below.setCell ?_ (by simp) _
      exact HB.out
  | false =>
    go_wp2
    refine bodyPost_ret (v := .tuple #[zv, .bool false]) ?_ rfl ⟨rfl, ?_⟩
    · simp [results, Tryz.results78, go_sem, q0, q1, q2, q3, q4, q5, q6, z0, z1, z2, z3, z4, z5, z6]
    · iterate 7 refine Below.setCell ?_ (by simp) _
      exact HB.out

set_option maxHeartbeats 1000000 in
theorem fin_power (name : ByteArray) (a1 : Option Addr) (m1 c1 : Nat) (b off : Nat) (x : ByteArray) (d : Nat) (w : World) (hc : w.cell? ⟨b, off, none⟩ = some (.string x)) (v : Nat) (r t : Bool) (hv : numv x.data.toList = v) (hr : nok x.data.toList = r) (ht : decide (v ≤ 6) = t) :
    Calls Tryz.prog 78 #[sv name ⟨lPower.toArray⟩ (.slice a1 m1 c1) nils em 0 nils, .slice (some ⟨b, off, none⟩) 1 d] w fun e w' =>
      e = .returned (.tuple #[if r && t then sv name ⟨lPower.toArray⟩ (.slice a1 m1 c1) nils em v nils else zv, .bool (r && t)]) ∧ Below w.heap.size w w' := by
  have hb : ∀ o1 o2, Below w.heap.size w ((w.alloc o1).alloc o2) := fun o1 o2 => ((Below.refl _ _).alloc (Nat.le_refl _) _).alloc (by simp) _
  have HC : Hid _ := hb
  have hc2 : ∀ o1 o2, ((w.alloc o1).alloc o2).cell? ⟨b, off, none⟩ = some (.string x) := fun o1 o2 => cell_below (hb o1 o2) hc
  have HV : Hid (numv x.data.toList = v ∧ nok x.data.toList = r) := ⟨hv, hr⟩
  have hlt : b < w.heap.size := row_lt hc
  clear hb hv hr
  go_enter Tryz.func78, Tryz.ntmps78
  go_wp2_with fail
  refine (number_any x _).mono ?_
  rintro e w1 ⟨rfl, rfl⟩
  rw [HV.out.1, HV.out.2]
  cases r with
  | true =>
    cases t with
    | true =>
      have h6 : (v : Int) ≤ 6 := by have := of_decide_eq_true ht; omega
      clear ht
      go_wp2
      refine bodyPost_ret (v := .tuple #[sv name ⟨lPower.toArray⟩ (.slice a1 m1 c1) nils em v nils, .bool true]) ?_ rfl ⟨rfl, ?_⟩
      · simp [results, Tryz.results78, go_sem]
      · exact HC.out _ _
    | false =>
      have h6 : decide ((v : Int) ≤ 6) = false := by have := of_decide_eq_false ht; exact decide_eq_false (by omega)
      clear ht
      go_wp2
      refine bodyPost_ret (v := .tuple #[zv, .bool false]) ?_ rfl ⟨rfl, ?_⟩
      · simp [results, Tryz.results78, go_sem]
      · exact HC.out _ _
  | false =>
    go_wp2
    refine bodyPost_ret (v := .tuple #[zv, .bool false]) ?_ rfl ⟨rfl, ?_⟩
    · simp [results, Tryz.results78, go_sem]
    · exact HC.out _ _
end Go.Proofs.YtadgnafafdfioaaGreatDoor.Rd
