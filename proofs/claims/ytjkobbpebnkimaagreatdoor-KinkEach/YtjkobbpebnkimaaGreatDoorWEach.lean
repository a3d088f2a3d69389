/-
  THE WALK OF KinkEach. Conditions: what the arguments hold.
-/
import Derived.Test.YtjkobbpebnkimaaGreatDoorKl
import Derived.Test.YtjkobbpebnkimaaGreatDoorKz
import Derived.Test.YtjkobbpebnkimaaGreatDoorSg
namespace Go.Proofs.YtjkobbpebnkimaaGreatDoor.Tn
set_option maxRecDepth 100000
open Go.RowKit Nm
set_option linter.unusedVariables false

set_option maxHeartbeats 4000000 in
theorem leach_long (a1 b1 : Option Addr) (c1 d1 m1 n1 : Nat) (aF aZ : Addr) (w : World) (hE : Er w aF aZ)
    (hS1 : ∀ v, Below w.heap.size w v → Calls Tryz.prog 11 #[.agg #[.slice a1 m1 c1, .slice b1 n1 d1]] v fun e w' => e = .returned (.bool false) ∧ Below v.heap.size v w') :
    Calls Tryz.prog 3 #[.agg #[.slice a1 m1 c1, .slice b1 n1 d1]] w fun e w' => e = .returned (.bool true) ∧ Below w.heap.size w w' := by
  have HE : Hid _ := hE
  clear hE
  have HB : Hid (Below w.heap.size w w) := Below.refl _ _
  have hu := bl_alloc (Below.refl w.heap.size w) (.cells #[.slice a1 m1 c1, .slice b1 n1 d1] 25)
  replace HB : Hid _ := bl_trans HB.out hu
  clear hu
  have K10 : (w.alloc (.cells #[.slice a1 m1 c1, .slice b1 n1 d1] 25)).cell? ⟨w.heap.size, 0, none⟩ = some (.slice a1 m1 c1) := by first | rw [World.cell?_alloc_at _ _ _ _ (by simp)]; rfl | simp
  have K11 : (w.alloc (.cells #[.slice a1 m1 c1, .slice b1 n1 d1] 25)).cell? ⟨w.heap.size, 1, none⟩ = some (.slice b1 n1 d1) := by first | rw [World.cell?_alloc_at _ _ _ _ (by simp)]; rfl | simp
  go_enter Tryz.func3, Tryz.ntmps3
  go_wp2_with fail
  refine (hS1 _ HB.out).mono ?_
  rintro e w1 ⟨rfl, hb⟩
  have hu := hb
  replace HB : Hid _ := bl_trans HB.out hu
  replace K10 := cell_below hu K10
  replace K11 := cell_below hu K11
  clear hu
  clear hb
  go_wp2_with fail
  refine (awake_any aF aZ _ (HE.out.below HB.out)).mono ?_
  rintro e w2 ⟨rfl, hb⟩
  have hu := hb
  replace HB : Hid _ := bl_trans HB.out hu
  replace K10 := cell_below hu K10
  replace K11 := cell_below hu K11
  clear hu
  clear hb
  go_wp2
  go_ret
  exact ⟨rfl, HB.out⟩

set_option maxHeartbeats 4000000 in
theorem leach_no (a1 b1 : Option Addr) (c1 d1 m1 n1 : Nat) (aF aZ : Addr) (w : World) (hE : Er w aF aZ)
    (hS1 : ∀ v, Below w.heap.size w v → Calls Tryz.prog 11 #[.agg #[.slice a1 m1 c1, .slice b1 n1 d1]] v fun e w' => e = .returned (.bool true) ∧ Below v.heap.size v w')
    (hZ13 : ∀ v, Below w.heap.size w v → Calls Tryz.prog 13 #[.agg #[.slice a1 m1 c1, .slice b1 n1 d1]] v fun e w' => e = .returned (noTensor 1) ∧ Below v.heap.size v w')
    (hZ14 : ∀ v, Below w.heap.size w v → Calls Tryz.prog 14 #[.agg #[.slice a1 m1 c1, .slice b1 n1 d1]] v fun e w' => e = .returned (noTensor 1) ∧ Below v.heap.size v w')
    (hZ15 : ∀ v, Below w.heap.size w v → Calls Tryz.prog 15 #[.agg #[.slice a1 m1 c1, .slice b1 n1 d1]] v fun e w' => e = .returned (noTensor 1) ∧ Below v.heap.size v w')
    (hZ16 : ∀ v, Below w.heap.size w v → Calls Tryz.prog 16 #[.agg #[.slice a1 m1 c1, .slice b1 n1 d1]] v fun e w' => e = .returned (noTensor 1) ∧ Below v.heap.size v w')
    (hF : ∀ v, Below w.heap.size w v → Calls Tryz.prog 17 #[.agg #[.slice a1 m1 c1, .slice b1 n1 d1]] v fun e w' => e = .returned (.tuple #[.bool false, .int .i64 1]) ∧ Below v.heap.size v w')
    (hR1 : ∀ v, Below w.heap.size w v → Calls Tryz.prog 18 #[.agg #[.slice a1 m1 c1, .slice b1 n1 d1]] v fun e w' => e = .returned (.bool false) ∧ Below v.heap.size v w') :
    Calls Tryz.prog 3 #[.agg #[.slice a1 m1 c1, .slice b1 n1 d1]] w fun e w' => e = .returned (.bool true) ∧ Below w.heap.size w w' := by
  have HE : Hid _ := hE
  clear hE
  have HB : Hid (Below w.heap.size w w) := Below.refl _ _
  have hu := bl_alloc (Below.refl w.heap.size w) (.cells #[.slice a1 m1 c1, .slice b1 n1 d1] 25)
  replace HB : Hid _ := bl_trans HB.out hu
  clear hu
  have K10 : (w.alloc (.cells #[.slice a1 m1 c1, .slice b1 n1 d1] 25)).cell? ⟨w.heap.size, 0, none⟩ = some (.slice a1 m1 c1) := by first | rw [World.cell?_alloc_at _ _ _ _ (by simp)]; rfl | simp
  have K11 : (w.alloc (.cells #[.slice a1 m1 c1, .slice b1 n1 d1] 25)).cell? ⟨w.heap.size, 1, none⟩ = some (.slice b1 n1 d1) := by first | rw [World.cell?_alloc_at _ _ _ _ (by simp)]; rfl | simp
  go_enter Tryz.func3, Tryz.ntmps3
  go_wp2_with fail
  refine (hS1 _ HB.out).mono ?_
  rintro e w1 ⟨rfl, hb⟩
  have hu := hb
  replace HB : Hid _ := bl_trans HB.out hu
  replace K10 := cell_below hu K10
  replace K11 := cell_below hu K11
  clear hu
  clear hb
  go_wp2_with fail
  refine (hZ13 _ HB.out).mono ?_
  rintro e w2 ⟨rfl, hb⟩
  have hu := bl_alloc hb (.cells #[.slice none 0 0, .slice none 0 0] 25)
  replace HB : Hid _ := bl_trans HB.out hu
  replace K10 := cell_below hu K10
  replace K11 := cell_below hu K11
  clear hu
  have Kq130 : (w2.alloc (.cells #[.slice none 0 0, .slice none 0 0] 25)).cell? ⟨w2.heap.size, 0, none⟩ = some (.slice none 0 0) := by simp
  have Kq131 : (w2.alloc (.cells #[.slice none 0 0, .slice none 0 0] 25)).cell? ⟨w2.heap.size, 1, none⟩ = some (.slice none 0 0) := by simp
  clear hb
  go_wp2_with fail
  refine (hZ14 _ HB.out).mono ?_
  rintro e w3 ⟨rfl, hb⟩
  have hu := bl_alloc hb (.cells #[.slice none 0 0, .slice none 0 0] 25)
  replace HB : Hid _ := bl_trans HB.out hu
  replace K10 := cell_below hu K10
  replace K11 := cell_below hu K11
  replace Kq130 := cell_below hu Kq130
  replace Kq131 := cell_below hu Kq131
  clear hu
  have Kq140 : (w3.alloc (.cells #[.slice none 0 0, .slice none 0 0] 25)).cell? ⟨w3.heap.size, 0, none⟩ = some (.slice none 0 0) := by simp
  have Kq141 : (w3.alloc (.cells #[.slice none 0 0, .slice none 0 0] 25)).cell? ⟨w3.heap.size, 1, none⟩ = some (.slice none 0 0) := by simp
  clear hb
  go_wp2_with fail
  refine (hZ15 _ HB.out).mono ?_
  rintro e w4 ⟨rfl, hb⟩
  have hu := bl_alloc hb (.cells #[.slice none 0 0, .slice none 0 0] 25)
  replace HB : Hid _ := bl_trans HB.out hu
  replace K10 := cell_below hu K10
  replace K11 := cell_below hu K11
  replace Kq130 := cell_below hu Kq130
  replace Kq131 := cell_below hu Kq131
  replace Kq140 := cell_below hu Kq140
  replace Kq141 := cell_below hu Kq141
  clear hu
  have Kq150 : (w4.alloc (.cells #[.slice none 0 0, .slice none 0 0] 25)).cell? ⟨w4.heap.size, 0, none⟩ = some (.slice none 0 0) := by simp
  have Kq151 : (w4.alloc (.cells #[.slice none 0 0, .slice none 0 0] 25)).cell? ⟨w4.heap.size, 1, none⟩ = some (.slice none 0 0) := by simp
  clear hb
  go_wp2_with fail
  refine (hZ16 _ HB.out).mono ?_
  rintro e w5 ⟨rfl, hb⟩
  have hu := bl_alloc hb (.cells #[.slice none 0 0, .slice none 0 0] 25)
  replace HB : Hid _ := bl_trans HB.out hu
  replace K10 := cell_below hu K10
  replace K11 := cell_below hu K11
  replace Kq130 := cell_below hu Kq130
  replace Kq131 := cell_below hu Kq131
  replace Kq140 := cell_below hu Kq140
  replace Kq141 := cell_below hu Kq141
  replace Kq150 := cell_below hu Kq150
  replace Kq151 := cell_below hu Kq151
  clear hu
  have Kq160 : (w5.alloc (.cells #[.slice none 0 0, .slice none 0 0] 25)).cell? ⟨w5.heap.size, 0, none⟩ = some (.slice none 0 0) := by simp
  have Kq161 : (w5.alloc (.cells #[.slice none 0 0, .slice none 0 0] 25)).cell? ⟨w5.heap.size, 1, none⟩ = some (.slice none 0 0) := by simp
  clear hb
  go_wp2_with fail
  refine (hF _ HB.out).mono ?_
  rintro e w6 ⟨rfl, hb⟩
  have hu := hb
  replace HB : Hid _ := bl_trans HB.out hu
  replace K10 := cell_below hu K10
  replace K11 := cell_below hu K11
  replace Kq130 := cell_below hu Kq130
  replace Kq131 := cell_below hu Kq131
  replace Kq140 := cell_below hu Kq140
  replace Kq141 := cell_below hu Kq141
  replace Kq150 := cell_below hu Kq150
  replace Kq151 := cell_below hu Kq151
  replace Kq160 := cell_below hu Kq160
  replace Kq161 := cell_below hu Kq161
  clear hu
  clear hb
  go_wp2_with fail
  refine (hR1 _ HB.out).mono ?_
  rintro e w7 ⟨rfl, hb⟩
  have hu := hb
  replace HB : Hid _ := bl_trans HB.out hu
  replace K10 := cell_below hu K10
  replace K11 := cell_below hu K11
  replace Kq130 := cell_below hu Kq130
  replace Kq131 := cell_below hu Kq131
  replace Kq140 := cell_below hu Kq140
  replace Kq141 := cell_below hu Kq141
  replace Kq150 := cell_below hu Kq150
  replace Kq151 := cell_below hu Kq151
  replace Kq160 := cell_below hu Kq160
  replace Kq161 := cell_below hu Kq161
  clear hu
  clear hb
  go_wp2_with fail
  refine (awake_any aF aZ _ (HE.out.below HB.out)).mono ?_
  rintro e w8 ⟨rfl, hb⟩
  have hu := hb
  replace HB : Hid _ := bl_trans HB.out hu
  replace K10 := cell_below hu K10
  replace K11 := cell_below hu K11
  replace Kq130 := cell_below hu Kq130
  replace Kq131 := cell_below hu Kq131
  replace Kq140 := cell_below hu Kq140
  replace Kq141 := cell_below hu Kq141
  replace Kq150 := cell_below hu Kq150
  replace Kq151 := cell_below hu Kq151
  replace Kq160 := cell_below hu Kq160
  replace Kq161 := cell_below hu Kq161
  clear hu
  clear hb
  go_wp2
  go_ret
  exact ⟨rfl, HB.out⟩
/-- what stands while steps 0 to 3 are under way -/
structure Ce0 (wr : World) (M0 M1 : Value) (zs : List Int) (m n : Nat) (qs : List Rat) (bd : Nat) (L : Array Bool) (v : World) (s109 s110 s111 s112 : Value) : Prop where
  sz : L.size = 4
  lo : ∀ j, j < 0 → on L j
  bl : Below wr.heap.size wr v
  h0 : on L 0 → s109 = M0
  h1 : on L 1 → s110 = M1
  h2 : on L 2 → Nt zs m n qs bd v s111
  h3 : on L 3 → s112 = .bool true
section
variable {wr : World} {M0 M1 : Value} {zs : List Int} {m n : Nat} {qs : List Rat} {bd : Nat} {L : Array Bool} {v v' : World} {s109 s110 s111 s112 x : Value}
theorem Ce0.t0 (h : Ce0 wr M0 M1 zs m n qs bd L v s109 s110 s111 s112) : Ce0 wr M0 M1 zs m n qs bd (L.setIfInBounds 0 true) v M0 s110 s111 s112 :=
  ⟨by simp [h.sz], fun j hj => by unfold on; rw [on_eq (by omega)]; exact h.lo j hj, h.bl, fun _ => rfl, fun g => h.h1 (on_set g (by decide)), fun g => h.h2 (on_set g (by decide)), fun g => h.h3 (on_set g (by decide))⟩
theorem Ce0.t1 (h : Ce0 wr M0 M1 zs m n qs bd L v s109 s110 s111 s112) : Ce0 wr M0 M1 zs m n qs bd (L.setIfInBounds 1 true) v s109 M1 s111 s112 :=
  ⟨by simp [h.sz], fun j hj => by unfold on; rw [on_eq (by omega)]; exact h.lo j hj, h.bl, fun g => h.h0 (on_set g (by decide)), fun _ => rfl, fun g => h.h2 (on_set g (by decide)), fun g => h.h3 (on_set g (by decide))⟩
theorem Ce0.t2 (h : Ce0 wr M0 M1 zs m n qs bd L v s109 s110 s111 s112) (hx : Nt zs m n qs bd v' x) (hb : Below v.heap.size v v') : Ce0 wr M0 M1 zs m n qs bd (L.setIfInBounds 2 true) v' s109 s110 x s112 :=
  ⟨by simp [h.sz], fun j hj => by unfold on; rw [on_eq (by omega)]; exact h.lo j hj, bl_trans h.bl hb, fun g => h.h0 (on_set g (by decide)), fun g => h.h1 (on_set g (by decide)), fun _ => hx, fun g => h.h3 (on_set g (by decide))⟩
theorem Ce0.t3 (h : Ce0 wr M0 M1 zs m n qs bd L v s109 s110 s111 s112) (hb : Below v.heap.size v v') : Ce0 wr M0 M1 zs m n qs bd (L.setIfInBounds 3 true) v' s109 s110 s111 (.bool true) :=
  ⟨by simp [h.sz], fun j hj => by unfold on; rw [on_eq (by omega)]; exact h.lo j hj, bl_trans h.bl hb, fun g => h.h0 (on_set g (by decide)), fun g => h.h1 (on_set g (by decide)), fun g => (h.h2 (on_set g (by decide))).below hb, fun _ => rfl⟩
end
/-- what stands while steps 5 to 8 are under way -/
structure Ce1 (wr : World) (M0 M1 : Value) (zs : List Int) (m n : Nat) (qs : List Rat) (bd : Nat) (L : Array Bool) (v : World) (s114 s115 s116 s117 : Value) : Prop where
  sz : L.size = 9
  lo : ∀ j, j < 5 → on L j
  bl : Below wr.heap.size wr v
  h0 : on L 5 → s114 = M0
  h1 : on L 6 → s115 = M1
  h2 : on L 7 → Nt zs m n qs bd v s116
  h3 : on L 8 → s117 = .bool true
section
variable {wr : World} {M0 M1 : Value} {zs : List Int} {m n : Nat} {qs : List Rat} {bd : Nat} {L : Array Bool} {v v' : World} {s114 s115 s116 s117 x : Value}
theorem Ce1.t0 (h : Ce1 wr M0 M1 zs m n qs bd L v s114 s115 s116 s117) : Ce1 wr M0 M1 zs m n qs bd (L.setIfInBounds 5 true) v M0 s115 s116 s117 :=
  ⟨by simp [h.sz], fun j hj => by unfold on; rw [on_eq (by omega)]; exact h.lo j hj, h.bl, fun _ => rfl, fun g => h.h1 (on_set g (by decide)), fun g => h.h2 (on_set g (by decide)), fun g => h.h3 (on_set g (by decide))⟩
theorem Ce1.t1 (h : Ce1 wr M0 M1 zs m n qs bd L v s114 s115 s116 s117) : Ce1 wr M0 M1 zs m n qs bd (L.setIfInBounds 6 true) v s114 M1 s116 s117 :=
  ⟨by simp [h.sz], fun j hj => by unfold on; rw [on_eq (by omega)]; exact h.lo j hj, h.bl, fun g => h.h0 (on_set g (by decide)), fun _ => rfl, fun g => h.h2 (on_set g (by decide)), fun g => h.h3 (on_set g (by decide))⟩
theorem Ce1.t2 (h : Ce1 wr M0 M1 zs m n qs bd L v s114 s115 s116 s117) (hx : Nt zs m n qs bd v' x) (hb : Below v.heap.size v v') : Ce1 wr M0 M1 zs m n qs bd (L.setIfInBounds 7 true) v' s114 s115 x s117 :=
  ⟨by simp [h.sz], fun j hj => by unfold on; rw [on_eq (by omega)]; exact h.lo j hj, bl_trans h.bl hb, fun g => h.h0 (on_set g (by decide)), fun g => h.h1 (on_set g (by decide)), fun _ => hx, fun g => h.h3 (on_set g (by decide))⟩
theorem Ce1.t3 (h : Ce1 wr M0 M1 zs m n qs bd L v s114 s115 s116 s117) (hb : Below v.heap.size v v') : Ce1 wr M0 M1 zs m n qs bd (L.setIfInBounds 8 true) v' s114 s115 s116 (.bool true) :=
  ⟨by simp [h.sz], fun j hj => by unfold on; rw [on_eq (by omega)]; exact h.lo j hj, bl_trans h.bl hb, fun g => h.h0 (on_set g (by decide)), fun g => h.h1 (on_set g (by decide)), fun g => (h.h2 (on_set g (by decide))).below hb, fun _ => rfl⟩
end
/-- what stands while steps 11 to 14 are under way -/
structure Ce2 (wr : World) (M0 M1 : Value) (zs : List Int) (m n : Nat) (qs : List Rat) (bd : Nat) (L : Array Bool) (v : World) (s120 s121 s122 s123 : Value) : Prop where
  sz : L.size = 15
  lo : ∀ j, j < 11 → on L j
  bl : Below wr.heap.size wr v
  h0 : on L 11 → s120 = M0
  h1 : on L 12 → s121 = M1
  h2 : on L 13 → Nt zs m n qs bd v s122
  h3 : on L 14 → s123 = .bool true
section
variable {wr : World} {M0 M1 : Value} {zs : List Int} {m n : Nat} {qs : List Rat} {bd : Nat} {L : Array Bool} {v v' : World} {s120 s121 s122 s123 x : Value}
theorem Ce2.t0 (h : Ce2 wr M0 M1 zs m n qs bd L v s120 s121 s122 s123) : Ce2 wr M0 M1 zs m n qs bd (L.setIfInBounds 11 true) v M0 s121 s122 s123 :=
  ⟨by simp [h.sz], fun j hj => by unfold on; rw [on_eq (by omega)]; exact h.lo j hj, h.bl, fun _ => rfl, fun g => h.h1 (on_set g (by decide)), fun g => h.h2 (on_set g (by decide)), fun g => h.h3 (on_set g (by decide))⟩
theorem Ce2.t1 (h : Ce2 wr M0 M1 zs m n qs bd L v s120 s121 s122 s123) : Ce2 wr M0 M1 zs m n qs bd (L.setIfInBounds 12 true) v s120 M1 s122 s123 :=
  ⟨by simp [h.sz], fun j hj => by unfold on; rw [on_eq (by omega)]; exact h.lo j hj, h.bl, fun g => h.h0 (on_set g (by decide)), fun _ => rfl, fun g => h.h2 (on_set g (by decide)), fun g => h.h3 (on_set g (by decide))⟩
theorem Ce2.t2 (h : Ce2 wr M0 M1 zs m n qs bd L v s120 s121 s122 s123) (hx : Nt zs m n qs bd v' x) (hb : Below v.heap.size v v') : Ce2 wr M0 M1 zs m n qs bd (L.setIfInBounds 13 true) v' s120 s121 x s123 :=
  ⟨by simp [h.sz], fun j hj => by unfold on; rw [on_eq (by omega)]; exact h.lo j hj, bl_trans h.bl hb, fun g => h.h0 (on_set g (by decide)), fun g => h.h1 (on_set g (by decide)), fun _ => hx, fun g => h.h3 (on_set g (by decide))⟩
theorem Ce2.t3 (h : Ce2 wr M0 M1 zs m n qs bd L v s120 s121 s122 s123) (hb : Below v.heap.size v v') : Ce2 wr M0 M1 zs m n qs bd (L.setIfInBounds 14 true) v' s120 s121 s122 (.bool true) :=
  ⟨by simp [h.sz], fun j hj => by unfold on; rw [on_eq (by omega)]; exact h.lo j hj, bl_trans h.bl hb, fun g => h.h0 (on_set g (by decide)), fun g => h.h1 (on_set g (by decide)), fun g => (h.h2 (on_set g (by decide))).below hb, fun _ => rfl⟩
end
/-- what stands while steps 17 to 20 are under way -/
structure Ce3 (wr : World) (M0 M1 : Value) (zs : List Int) (m n : Nat) (qs : List Rat) (bd : Nat) (L : Array Bool) (v : World) (s126 s127 s128 s129 : Value) : Prop where
  sz : L.size = 21
  lo : ∀ j, j < 17 → on L j
  bl : Below wr.heap.size wr v
  h0 : on L 17 → s126 = M0
  h1 : on L 18 → s127 = M1
  h2 : on L 19 → Nt zs m n qs bd v s128
  h3 : on L 20 → s129 = .bool true
section
variable {wr : World} {M0 M1 : Value} {zs : List Int} {m n : Nat} {qs : List Rat} {bd : Nat} {L : Array Bool} {v v' : World} {s126 s127 s128 s129 x : Value}
theorem Ce3.t0 (h : Ce3 wr M0 M1 zs m n qs bd L v s126 s127 s128 s129) : Ce3 wr M0 M1 zs m n qs bd (L.setIfInBounds 17 true) v M0 s127 s128 s129 :=
  ⟨by simp [h.sz], fun j hj => by unfold on; rw [on_eq (by omega)]; exact h.lo j hj, h.bl, fun _ => rfl, fun g => h.h1 (on_set g (by decide)), fun g => h.h2 (on_set g (by decide)), fun g => h.h3 (on_set g (by decide))⟩
theorem Ce3.t1 (h : Ce3 wr M0 M1 zs m n qs bd L v s126 s127 s128 s129) : Ce3 wr M0 M1 zs m n qs bd (L.setIfInBounds 18 true) v s126 M1 s128 s129 :=
  ⟨by simp [h.sz], fun j hj => by unfold on; rw [on_eq (by omega)]; exact h.lo j hj, h.bl, fun g => h.h0 (on_set g (by decide)), fun _ => rfl, fun g => h.h2 (on_set g (by decide)), fun g => h.h3 (on_set g (by decide))⟩
theorem Ce3.t2 (h : Ce3 wr M0 M1 zs m n qs bd L v s126 s127 s128 s129) (hx : Nt zs m n qs bd v' x) (hb : Below v.heap.size v v') : Ce3 wr M0 M1 zs m n qs bd (L.setIfInBounds 19 true) v' s126 s127 x s129 :=
  ⟨by simp [h.sz], fun j hj => by unfold on; rw [on_eq (by omega)]; exact h.lo j hj, bl_trans h.bl hb, fun g => h.h0 (on_set g (by decide)), fun g => h.h1 (on_set g (by decide)), fun _ => hx, fun g => h.h3 (on_set g (by decide))⟩
theorem Ce3.t3 (h : Ce3 wr M0 M1 zs m n qs bd L v s126 s127 s128 s129) (hb : Below v.heap.size v v') : Ce3 wr M0 M1 zs m n qs bd (L.setIfInBounds 20 true) v' s126 s127 s128 (.bool true) :=
  ⟨by simp [h.sz], fun j hj => by unfold on; rw [on_eq (by omega)]; exact h.lo j hj, bl_trans h.bl hb, fun g => h.h0 (on_set g (by decide)), fun g => h.h1 (on_set g (by decide)), fun g => (h.h2 (on_set g (by decide))).below hb, fun _ => rfl⟩
end

set_option maxHeartbeats 4000000 in
theorem leach_good (a1 b1 : Option Addr) (c1 d1 m n : Nat) (zs : List Int) (qs : List Rat) (aF aZ : Addr) (w : World) (hE : Er w aF aZ)
    (hS1 : ∀ v, Below w.heap.size w v → Calls Tryz.prog 11 #[.agg #[.slice a1 m c1, .slice b1 n d1]] v fun e w' => e = .returned (.bool true) ∧ Below v.heap.size v w')
    (hR1 : ∀ v, Below w.heap.size w v → Calls Tryz.prog 18 #[.agg #[.slice a1 m c1, .slice b1 n d1]] v fun e w' => e = .returned (.bool true) ∧ Below v.heap.size v w')
    (hT1 : Tt w 0 a1 b1 zs m n qs 40) :
    Calls Tryz.prog 3 #[.agg #[.slice a1 m c1, .slice b1 n d1]] w fun e w' => e = .returned (.bool true) ∧ Below w.heap.size w w' := by
  have HE : Hid _ := hE
  clear hE
  have HB : Hid (Below w.heap.size w w) := Below.refl _ _
  have HL : Hid (qs.length = n) := hT1.hn
  have hle := hT1.le
  have HTa : Hid _ := hT1
  clear hT1
  have hu := bl_alloc (Below.refl w.heap.size w) (.cells #[.slice a1 m c1, .slice b1 n d1] 25)
  replace HB : Hid _ := bl_trans HB.out hu
  replace HTa : Hid _ := HTa.out.below hu
  clear hu
  have K10 : (w.alloc (.cells #[.slice a1 m c1, .slice b1 n d1] 25)).cell? ⟨w.heap.size, 0, none⟩ = some (.slice a1 m c1) := by first | rw [World.cell?_alloc_at _ _ _ _ (by simp)]; rfl | simp
  have K11 : (w.alloc (.cells #[.slice a1 m c1, .slice b1 n d1] 25)).cell? ⟨w.heap.size, 1, none⟩ = some (.slice b1 n d1) := by first | rw [World.cell?_alloc_at _ _ _ _ (by simp)]; rfl | simp
  go_enter Tryz.func3, Tryz.ntmps3
  go_wp2_with fail
  refine (hS1 _ HB.out).mono ?_
  rintro e w1 ⟨rfl, hb⟩
  have hu := hb
  replace HB : Hid _ := bl_trans HB.out hu
  replace HTa : Hid _ := HTa.out.below hu
  replace K10 := cell_below hu K10
  replace K11 := cell_below hu K11
  clear hu
  clear hb
  go_wp2_with fail
  refine (zrelu c1 d1 (HE.out.below HB.out) HTa.out (by omega)).mono ?_
  rintro e w2 ⟨a2', c2', b2', d2', rfl, hT, hb⟩
  have hu := bl_alloc hb (.cells #[.slice a2' m c2', .slice b2' n d2'] 25)
  replace HB : Hid _ := bl_trans HB.out hu
  replace HTa : Hid _ := HTa.out.below hu
  replace K10 := cell_below hu K10
  replace K11 := cell_below hu K11
  clear hu
  have HTr : Hid _ := hT.below (bl_alloc (Below.refl w2.heap.size w2) (.cells #[.slice a2' m c2', .slice b2' n d2'] 25))
  have Kr0 : (w2.alloc (.cells #[.slice a2' m c2', .slice b2' n d2'] 25)).cell? ⟨w2.heap.size, 0, none⟩ = some (.slice a2' m c2') := by simp
  have Kr1 : (w2.alloc (.cells #[.slice a2' m c2', .slice b2' n d2'] 25)).cell? ⟨w2.heap.size, 1, none⟩ = some (.slice b2' n d2') := by simp
  clear hb hT
  go_wp2_with fail
  refine (zabs c1 d1 (HE.out.below HB.out) HTa.out (by omega)).mono ?_
  rintro e w3 ⟨a3', c3', b3', d3', rfl, hT, hb⟩
  have hu := bl_alloc hb (.cells #[.slice a3' m c3', .slice b3' n d3'] 25)
  replace HB : Hid _ := bl_trans HB.out hu
  replace HTa : Hid _ := HTa.out.below hu
  replace HTr : Hid _ := HTr.out.below hu
  replace K10 := cell_below hu K10
  replace K11 := cell_below hu K11
  replace Kr0 := cell_below hu Kr0
  replace Kr1 := cell_below hu Kr1
  clear hu
  have HTb : Hid _ := hT.below (bl_alloc (Below.refl w3.heap.size w3) (.cells #[.slice a3' m c3', .slice b3' n d3'] 25))
  have Kb0 : (w3.alloc (.cells #[.slice a3' m c3', .slice b3' n d3'] 25)).cell? ⟨w3.heap.size, 0, none⟩ = some (.slice a3' m c3') := by simp
  have Kb1 : (w3.alloc (.cells #[.slice a3' m c3', .slice b3' n d3'] 25)).cell? ⟨w3.heap.size, 1, none⟩ = some (.slice b3' n d3') := by simp
  clear hb hT
  go_wp2_with fail
  refine (zstep c1 d1 (HE.out.below HB.out) HTa.out (by omega)).mono ?_
  rintro e w4 ⟨a4', c4', b4', d4', rfl, hT, hb⟩
  have hu := bl_alloc hb (.cells #[.slice a4' m c4', .slice b4' n d4'] 25)
  replace HB : Hid _ := bl_trans HB.out hu
  replace HTa : Hid _ := HTa.out.below hu
  replace HTr : Hid _ := HTr.out.below hu
  replace HTb : Hid _ := HTb.out.below hu
  replace K10 := cell_below hu K10
  replace K11 := cell_below hu K11
  replace Kr0 := cell_below hu Kr0
  replace Kr1 := cell_below hu Kr1
  replace Kb0 := cell_below hu Kb0
  replace Kb1 := cell_below hu Kb1
  clear hu
  have HTs : Hid _ := hT.below (bl_alloc (Below.refl w4.heap.size w4) (.cells #[.slice a4' m c4', .slice b4' n d4'] 25))
  have Ks0 : (w4.alloc (.cells #[.slice a4' m c4', .slice b4' n d4'] 25)).cell? ⟨w4.heap.size, 0, none⟩ = some (.slice a4' m c4') := by simp
  have Ks1 : (w4.alloc (.cells #[.slice a4' m c4', .slice b4' n d4'] 25)).cell? ⟨w4.heap.size, 1, none⟩ = some (.slice b4' n d4') := by simp
  clear hb hT
  go_wp2_with fail
  refine (zsign c1 d1 (HE.out.below HB.out) HTa.out (by omega)).mono ?_
  rintro e w5 ⟨a5', c5', b5', d5', rfl, hT, hb⟩
  have hu := bl_alloc hb (.cells #[.slice a5' m c5', .slice b5' n d5'] 25)
  replace HB : Hid _ := bl_trans HB.out hu
  replace HTa : Hid _ := HTa.out.below hu
  replace HTr : Hid _ := HTr.out.below hu
  replace HTb : Hid _ := HTb.out.below hu
  replace HTs : Hid _ := HTs.out.below hu
  replace K10 := cell_below hu K10
  replace K11 := cell_below hu K11
  replace Kr0 := cell_below hu Kr0
  replace Kr1 := cell_below hu Kr1
  replace Kb0 := cell_below hu Kb0
  replace Kb1 := cell_below hu Kb1
  replace Ks0 := cell_below hu Ks0
  replace Ks1 := cell_below hu Ks1
  clear hu
  have HTn : Hid _ := hT.below (bl_alloc (Below.refl w5.heap.size w5) (.cells #[.slice a5' m c5', .slice b5' n d5'] 25))
  have Kn0 : (w5.alloc (.cells #[.slice a5' m c5', .slice b5' n d5'] 25)).cell? ⟨w5.heap.size, 0, none⟩ = some (.slice a5' m c5') := by simp
  have Kn1 : (w5.alloc (.cells #[.slice a5' m c5', .slice b5' n d5'] 25)).cell? ⟨w5.heap.size, 1, none⟩ = some (.slice b5' n d5') := by simp
  clear hb hT
  go_wp2_with fail
  refine (zflat c1 d1 (HE.out.below HB.out) HTa.out (by omega)).mono ?_
  rintro e w6 ⟨rfl, hb⟩
  have hu := hb
  replace HB : Hid _ := bl_trans HB.out hu
  replace HTa : Hid _ := HTa.out.below hu
  replace HTr : Hid _ := HTr.out.below hu
  replace HTb : Hid _ := HTb.out.below hu
  replace HTs : Hid _ := HTs.out.below hu
  replace HTn : Hid _ := HTn.out.below hu
  replace K10 := cell_below hu K10
  replace K11 := cell_below hu K11
  replace Kr0 := cell_below hu Kr0
  replace Kr1 := cell_below hu Kr1
  replace Kb0 := cell_below hu Kb0
  replace Kb1 := cell_below hu Kb1
  replace Ks0 := cell_below hu Ks0
  replace Ks1 := cell_below hu Ks1
  replace Kn0 := cell_below hu Kn0
  replace Kn1 := cell_below hu Kn1
  clear hu
  clear hb
  go_wp2_with fail
  refine (hR1 _ HB.out).mono ?_
  rintro e w7 ⟨rfl, hb⟩
  have hu := hb
  replace HB : Hid _ := bl_trans HB.out hu
  replace HTa : Hid _ := HTa.out.below hu
  replace HTr : Hid _ := HTr.out.below hu
  replace HTb : Hid _ := HTb.out.below hu
  replace HTs : Hid _ := HTs.out.below hu
  replace HTn : Hid _ := HTn.out.below hu
  replace K10 := cell_below hu K10
  replace K11 := cell_below hu K11
  replace Kr0 := cell_below hu Kr0
  replace Kr1 := cell_below hu Kr1
  replace Kb0 := cell_below hu Kb0
  replace Kb1 := cell_below hu Kb1
  replace Ks0 := cell_below hu Ks0
  replace Ks1 := cell_below hu Ks1
  replace Kn0 := cell_below hu Kn0
  replace Kn1 := cell_below hu Kn1
  clear hu
  clear hb
  have HRow : Hid _ := fun i (h : i < n) => row_str HTa.out.tm.r (i := i) (by rw [mapR_len, HL.out]; exact h)
  have HM : Hid _ := fun i (h : i < n) => mapR_at qs (i := i) (by rw [HL.out]; exact h)
  have HSn : Hid _ := fun i (h : i < n) => zero_snoc qs (k := i) (by rw [HL.out]; exact h)
  have HEnd : Hid _ := fun i (h : ¬ i < n) => take_all qs (k := i) HL.out h
  generalize hzq : zero qs = zz
  have HZQ : Hid _ := hzq
  clear hzq
  go_wp2_with fail
  go_loopw [13, 99] (fun al i wr => ∃ k : Nat, k ≤ n ∧ i = .int .i64 k ∧ al = .bool (zero (qs.take k)) ∧ wr = w7) (fun _ i _ => n - (intOf i).toNat)
  case atStart => exact ⟨0, by omega, rfl, rfl, rfl⟩
  case round =>
    obtain ⟨k, hk, rfl, rfl, rfl⟩ := hrel
    by_cases h : k < n
    · obtain ⟨b, off, rfl, hc⟩ := HRow.out k h
      rw [HM.out k h] at hc
      have he := eq0 (qs.getD k 0)
      have hs := HSn.out k h
      rw [← he] at hs
      generalize R (qs.getD k 0) = x at *
      have HC : Hid _ := hs
      clear he hs
      cases hz : zero (qs.take k)
      all_goals cases hx : x.toList == [48]
      all_goals
        rw [hz, hx] at HC
        go_wp2
        go_roundw
        case rel => exact ⟨k + 1, by omega, by go_num, by rw [HC.out]; rfl, by first | rfl | trivial⟩
        case measure => simp [intOf]; omega
    rw [HEnd.out k h, HZQ.out]
    clear HRow HM HSn HEnd
    go_wp2_with fail
    have hE9 := fun (v : World) (hv : Below wr.heap.size wr v) => reach_any nRelu kRelu (fun q v hq => one_relu q v hq) (fun q k h => bd_relu h) a1 b1 c1 d1 m n 0 zs qs v (HTa.out.below hv)
    unfold nRelu at hE9
    refine region_bar_inv 4 (by kernel_rfl) (by kernel_rfl) (fun L a v => ∃ s109 s110 s111 s112, a = ⟨#[Value.agg #[Value.slice a1 m c1, Value.slice b1 n d1], Value.pointer (some { block := w.heap.size, off := 0 }), Value.bool false, Value.pointer (some { block := w2.heap.size, off := 0 }), Value.int IntKind.i64 0, Value.pointer (some { block := w3.heap.size, off := 0 }), Value.int IntKind.i64 0, Value.pointer (some { block := w4.heap.size, off := 0 }), Value.int IntKind.i64 0, Value.pointer (some { block := w5.heap.size, off := 0 }), Value.int IntKind.i64 0, Value.bool zz, Value.int IntKind.i64 0, Value.bool zz, undef, u15, undef, Value.agg #[Value.slice a1 m c1, Value.slice b1 n d1], Value.bool true, Value.bool false, undef, Value.tuple #[Value.agg #[Value.slice a2' m c2', Value.slice b2' n d2'], Value.int IntKind.i64 0], Value.agg #[Value.slice a1 m c1, Value.slice b1 n d1], Value.tuple #[Value.agg #[Value.slice a2' m c2', Value.slice b2' n d2'], Value.int IntKind.i64 0], Value.agg #[Value.slice a2' m c2', Value.slice b2' n d2'], Value.int IntKind.i64 0, Value.tuple #[Value.agg #[Value.slice a3' m c3', Value.slice b3' n d3'], Value.int IntKind.i64 0], Value.agg #[Value.slice a1 m c1, Value.slice b1 n d1], Value.tuple #[Value.agg #[Value.slice a3' m c3', Value.slice b3' n d3'], Value.int IntKind.i64 0], Value.agg #[Value.slice a3' m c3', Value.slice b3' n d3'], Value.int IntKind.i64 0, Value.tuple #[Value.agg #[Value.slice a4' m c4', Value.slice b4' n d4'], Value.int IntKind.i64 0], Value.agg #[Value.slice a1 m c1, Value.slice b1 n d1], Value.tuple #[Value.agg #[Value.slice a4' m c4', Value.slice b4' n d4'], Value.int IntKind.i64 0], Value.agg #[Value.slice a4' m c4', Value.slice b4' n d4'], Value.int IntKind.i64 0, Value.tuple #[Value.agg #[Value.slice a5' m c5', Value.slice b5' n d5'], Value.int IntKind.i64 0], Value.agg #[Value.slice a1 m c1, Value.slice b1 n d1], Value.tuple #[Value.agg #[Value.slice a5' m c5', Value.slice b5' n d5'], Value.int IntKind.i64 0], Value.agg #[Value.slice a5' m c5', Value.slice b5' n d5'], Value.int IntKind.i64 0, Value.tuple #[Value.bool zz, Value.int IntKind.i64 0], Value.agg #[Value.slice a1 m c1, Value.slice b1 n d1], Value.tuple #[Value.bool zz, Value.int IntKind.i64 0], Value.bool zz, Value.int IntKind.i64 0, Value.agg #[Value.slice a1 m c1, Value.slice b1 n d1], Value.bool true, Value.bool false, undef, undef, undef, undef, undef, undef, undef, undef, undef, undef, undef, undef, undef, undef, undef, undef, undef, undef, undef, undef, undef, undef, undef, undef, undef, undef, undef, undef, undef, undef, undef, undef, undef, undef, undef, undef, undef, undef, undef, undef, undef, undef, undef, undef, undef, undef, undef, Value.pointer (some { block := w.heap.size, off := 1 }), Value.slice b1 n d1, Value.int IntKind.i64 (n : Int), Value.int IntKind.i64 (k : Int), Value.bool false, u101, u102, u103, u104, u105, u106, u107, u108, s109, s110, s111, s112, undef, undef, undef, undef, undef, undef, undef, undef, undef, undef, undef, undef, undef, undef, undef, undef, undef, undef, undef, undef, undef, undef, undef, undef, undef, undef, undef, undef, undef, undef, undef, undef, undef, undef, undef, undef, undef, undef, undef, undef, undef, undef, undef, undef, undef, undef, undef], []⟩ ∧ Ce0 wr (.agg #[.slice a2' m c2', .slice b2' n d2']) (.agg #[.slice a1 m c1, .slice b1 n d1]) zs m n (qs.map kRelu) 40 L v s109 s110 s111 s112) ?_ ?_ ?_
    · exact ⟨_, _, _, _, rfl, ⟨by simp, fun j hj => absurd hj (by omega), bl_drew (Below.refl _ _), fun g => absurd g (by simp [on]), fun g => absurd g (by simp [on]), fun g => absurd g (by simp [on]), fun g => absurd g (by simp [on])⟩⟩
    · intro L a v i hL9 hlt hI hrd
      obtain ⟨s109, s110, s111, s112, rfl, hP⟩ := hI
      obtain ⟨hu, o9, ho, haf⟩ := mem_ready.1 hrd
      have hge : 0 ≤ i := Nat.le_of_not_lt fun c => off_of hu (hP.lo i c)
      have y10 := cell_below hP.bl K10
      have y11 := cell_below hP.bl K11
      have yr0 := cell_below hP.bl Kr0
      have yr1 := cell_below hP.bl Kr1
      have yb0 := cell_below hP.bl Kb0
      have yb1 := cell_below hP.bl Kb1
      have ys0 := cell_below hP.bl Ks0
      have ys1 := cell_below hP.bl Ks1
      have yn0 := cell_below hP.bl Kn0
      have yn1 := cell_below hP.bl Kn1
      rcases (by omega : i = 0 ∨ i = 1 ∨ i = 2 ∨ i = 3) with rfl | rfl | rfl | rfl
      all_goals (cases ho; replace hu := off_of hu)
      · have hP2 := hP.t0
        refine step_run rfl rfl ?_
        go_simp
        exact ⟨_, _, _, _, ⟨rfl, rfl, rfl, rfl⟩, hP2⟩
      · have hP2 := hP.t1
        refine step_run rfl rfl ?_
        go_simp
        exact ⟨_, _, _, _, ⟨rfl, rfl, rfl, rfl⟩, hP2⟩
      · skip
        have e1 := (hP.h1 (haf { on := 1, ground := .data } (by simp) rfl)).symm
        subst e1
        refine step_run rfl rfl ?_
        go_simp
        refine (hE9 v hP.bl).mono ?_
        rintro e v9 ⟨a9, c9, b9, d9, rfl, hz, hb9⟩
        have hP2 := hP.t2 ⟨a9, c9, b9, d9, rfl, hz⟩ hb9
        go_simp
        exact ⟨_, _, _, _, ⟨rfl, rfl, rfl, rfl⟩, hP2⟩
      · have e0 := (hP.h0 (haf { on := 0, ground := .data } (by simp) rfl)).symm
        obtain ⟨a7, c7, b7, d7, e3, h9⟩ := hP.h2 (haf { on := 2, ground := .data } (by simp) rfl)
        replace e3 := e3.symm
        subst e0 e3
        refine step_run rfl rfl ?_
        go_simp
        refine (zeq c2' d2' c7 d7 (HTr.out.below hP.bl) h9 rfl).mono ?_
        rintro e v9 ⟨rfl, hb9⟩
        have hP2 := hP.t3 hb9
        go_simp
        exact ⟨_, _, _, _, ⟨rfl, rfl, rfl, rfl⟩, hP2⟩
    intro L a v4 hon hI
    obtain ⟨s109, s110, s111, s112, rfl, hP⟩ := hI
    have e9 := (hP.h3 (hon 3 (by decide))).symm
    have hb := hP.bl
    clear hP hon
    subst e9
    have hu := hb
    replace HB : Hid _ := bl_trans HB.out hu
    replace HTa : Hid _ := HTa.out.below hu
    replace HTr : Hid _ := HTr.out.below hu
    replace HTb : Hid _ := HTb.out.below hu
    replace HTs : Hid _ := HTs.out.below hu
    replace HTn : Hid _ := HTn.out.below hu
    replace K10 := cell_below hu K10
    replace K11 := cell_below hu K11
    replace Kr0 := cell_below hu Kr0
    replace Kr1 := cell_below hu Kr1
    replace Kb0 := cell_below hu Kb0
    replace Kb1 := cell_below hu Kb1
    replace Ks0 := cell_below hu Ks0
    replace Ks1 := cell_below hu Ks1
    replace Kn0 := cell_below hu Kn0
    replace Kn1 := cell_below hu Kn1
    clear hu
    clear hb
    clear hE9
    refine any_one 4 _ (by kernel_rfl) rfl (fun K hK => ?_)
    go_simp
    refine hK _ _ ?_
    clear hK K
    have hE9 := fun (v : World) (hv : Below v4.heap.size v4 v) => reach_any nAbs kAbs (fun q v hq => one_abs q v hq) (fun q k h => bd_abs h) a1 b1 c1 d1 m n 0 zs qs v (HTa.out.below hv)
    unfold nAbs at hE9
    refine any_next 5 9 (by kernel_rfl) (by decide) (by kernel_rfl) (by kernel_rfl) (fun L a v => ∃ s114 s115 s116 s117, a = ⟨#[Value.agg #[Value.slice a1 m c1, Value.slice b1 n d1], Value.pointer (some { block := w.heap.size, off := 0 }), Value.bool false, Value.pointer (some { block := w2.heap.size, off := 0 }), Value.int IntKind.i64 0, Value.pointer (some { block := w3.heap.size, off := 0 }), Value.int IntKind.i64 0, Value.pointer (some { block := w4.heap.size, off := 0 }), Value.int IntKind.i64 0, Value.pointer (some { block := w5.heap.size, off := 0 }), Value.int IntKind.i64 0, Value.bool zz, Value.int IntKind.i64 0, Value.bool zz, undef, u15, undef, Value.agg #[Value.slice a1 m c1, Value.slice b1 n d1], Value.bool true, Value.bool false, undef, Value.tuple #[Value.agg #[Value.slice a2' m c2', Value.slice b2' n d2'], Value.int IntKind.i64 0], Value.agg #[Value.slice a1 m c1, Value.slice b1 n d1], Value.tuple #[Value.agg #[Value.slice a2' m c2', Value.slice b2' n d2'], Value.int IntKind.i64 0], Value.agg #[Value.slice a2' m c2', Value.slice b2' n d2'], Value.int IntKind.i64 0, Value.tuple #[Value.agg #[Value.slice a3' m c3', Value.slice b3' n d3'], Value.int IntKind.i64 0], Value.agg #[Value.slice a1 m c1, Value.slice b1 n d1], Value.tuple #[Value.agg #[Value.slice a3' m c3', Value.slice b3' n d3'], Value.int IntKind.i64 0], Value.agg #[Value.slice a3' m c3', Value.slice b3' n d3'], Value.int IntKind.i64 0, Value.tuple #[Value.agg #[Value.slice a4' m c4', Value.slice b4' n d4'], Value.int IntKind.i64 0], Value.agg #[Value.slice a1 m c1, Value.slice b1 n d1], Value.tuple #[Value.agg #[Value.slice a4' m c4', Value.slice b4' n d4'], Value.int IntKind.i64 0], Value.agg #[Value.slice a4' m c4', Value.slice b4' n d4'], Value.int IntKind.i64 0, Value.tuple #[Value.agg #[Value.slice a5' m c5', Value.slice b5' n d5'], Value.int IntKind.i64 0], Value.agg #[Value.slice a1 m c1, Value.slice b1 n d1], Value.tuple #[Value.agg #[Value.slice a5' m c5', Value.slice b5' n d5'], Value.int IntKind.i64 0], Value.agg #[Value.slice a5' m c5', Value.slice b5' n d5'], Value.int IntKind.i64 0, Value.tuple #[Value.bool zz, Value.int IntKind.i64 0], Value.agg #[Value.slice a1 m c1, Value.slice b1 n d1], Value.tuple #[Value.bool zz, Value.int IntKind.i64 0], Value.bool zz, Value.int IntKind.i64 0, Value.agg #[Value.slice a1 m c1, Value.slice b1 n d1], Value.bool true, Value.bool false, undef, undef, undef, undef, undef, undef, undef, undef, undef, undef, undef, undef, undef, undef, undef, undef, undef, undef, undef, undef, undef, undef, undef, undef, undef, undef, undef, undef, undef, undef, undef, undef, undef, undef, undef, undef, undef, undef, undef, undef, undef, undef, undef, undef, undef, undef, undef, Value.pointer (some { block := w.heap.size, off := 1 }), Value.slice b1 n d1, Value.int IntKind.i64 (n : Int), Value.int IntKind.i64 (k : Int), Value.bool false, u101, u102, u103, u104, u105, u106, u107, u108, s109, s110, s111, .bool true, .bool true, s114, s115, s116, s117, undef, undef, undef, undef, undef, undef, undef, undef, undef, undef, undef, undef, undef, undef, undef, undef, undef, undef, undef, undef, undef, undef, undef, undef, undef, undef, undef, undef, undef, undef, undef, undef, undef, undef, undef, undef, undef, undef, undef, undef, undef, undef], []⟩ ∧ Ce1 v4 (.agg #[.slice a3' m c3', .slice b3' n d3']) (.agg #[.slice a1 m c1, .slice b1 n d1]) zs m n (qs.map kAbs) 40 L v s114 s115 s116 s117) ?_ ?_ ?_
    · exact ⟨_, _, _, _, rfl, ⟨part_size (by decide), fun j hj => part_lo hj, Below.refl _ _, fun g => absurd g (part_off (by decide)), fun g => absurd g (part_off (by decide)), fun g => absurd g (part_off (by decide)), fun g => absurd g (part_off (by decide))⟩⟩
    · intro L a v i hL9 hlt hI hrd
      obtain ⟨s114, s115, s116, s117, rfl, hP⟩ := hI
      obtain ⟨hu, o9, ho, haf⟩ := mem_ready.1 hrd
      have hge : 5 ≤ i := Nat.le_of_not_lt fun c => off_of hu (hP.lo i c)
      have y10 := cell_below hP.bl K10
      have y11 := cell_below hP.bl K11
      have yr0 := cell_below hP.bl Kr0
      have yr1 := cell_below hP.bl Kr1
      have yb0 := cell_below hP.bl Kb0
      have yb1 := cell_below hP.bl Kb1
      have ys0 := cell_below hP.bl Ks0
      have ys1 := cell_below hP.bl Ks1
      have yn0 := cell_below hP.bl Kn0
      have yn1 := cell_below hP.bl Kn1
      rcases (by omega : i = 5 ∨ i = 6 ∨ i = 7 ∨ i = 8) with rfl | rfl | rfl | rfl
      all_goals (cases ho; replace hu := off_of hu)
      · have hP2 := hP.t0
        refine step_runw rfl (by first | rfl | go_simp) ?_
        go_simp
        exact ⟨_, _, _, _, ⟨rfl, rfl, rfl, rfl⟩, hP2⟩
      · have hP2 := hP.t1
        refine step_runw rfl (by first | rfl | go_simp) ?_
        go_simp
        exact ⟨_, _, _, _, ⟨rfl, rfl, rfl, rfl⟩, hP2⟩
      · skip
        have e1 := (hP.h1 (haf { on := 6, ground := .data } (by simp) rfl)).symm
        subst e1
        refine step_runw rfl (by first | rfl | go_simp) ?_
        go_simp
        refine (hE9 v hP.bl).mono ?_
        rintro e v9 ⟨a9, c9, b9, d9, rfl, hz, hb9⟩
        have hP2 := hP.t2 ⟨a9, c9, b9, d9, rfl, hz⟩ hb9
        go_simp
        exact ⟨_, _, _, _, ⟨rfl, rfl, rfl, rfl⟩, hP2⟩
      · have e0 := (hP.h0 (haf { on := 5, ground := .data } (by simp) rfl)).symm
        obtain ⟨a7, c7, b7, d7, e3, h9⟩ := hP.h2 (haf { on := 7, ground := .data } (by simp) rfl)
        replace e3 := e3.symm
        subst e0 e3
        refine step_runw rfl (by first | rfl | go_simp) ?_
        go_simp
        refine (zeq c3' d3' c7 d7 (HTb.out.below hP.bl) h9 rfl).mono ?_
        rintro e v9 ⟨rfl, hb9⟩
        have hP2 := hP.t3 hb9
        go_simp
        exact ⟨_, _, _, _, ⟨rfl, rfl, rfl, rfl⟩, hP2⟩
    intro L a v9 hon hI
    obtain ⟨s114, s115, s116, s117, rfl, hP⟩ := hI
    have e9 := (hP.h3 (hon 8 (by decide))).symm
    have hb := hP.bl
    clear hP hon
    subst e9
    have hu := hb
    replace HB : Hid _ := bl_trans HB.out hu
    replace HTa : Hid _ := HTa.out.below hu
    replace HTr : Hid _ := HTr.out.below hu
    replace HTb : Hid _ := HTb.out.below hu
    replace HTs : Hid _ := HTs.out.below hu
    replace HTn : Hid _ := HTn.out.below hu
    replace K10 := cell_below hu K10
    replace K11 := cell_below hu K11
    replace Kr0 := cell_below hu Kr0
    replace Kr1 := cell_below hu Kr1
    replace Kb0 := cell_below hu Kb0
    replace Kb1 := cell_below hu Kb1
    replace Ks0 := cell_below hu Ks0
    replace Ks1 := cell_below hu Ks1
    replace Kn0 := cell_below hu Kn0
    replace Kn1 := cell_below hu Kn1
    clear hu
    clear hb
    clear hE9
    refine any_one 9 _ (by kernel_rfl) rfl (fun K hK => ?_)
    go_simp
    refine hK _ _ ?_
    clear hK K
    refine any_one 10 _ (by kernel_rfl) rfl (fun K hK => ?_)
    go_simp
    refine hK _ _ ?_
    clear hK K
    have hE9 := fun (v : World) (hv : Below v9.heap.size v9 v) => reach_any nStep kStep (fun q v hq => one_step q v hq) (fun q k h => bd_step h) a1 b1 c1 d1 m n 0 zs qs v (HTa.out.below hv)
    unfold nStep at hE9
    refine any_next 11 15 (by kernel_rfl) (by decide) (by kernel_rfl) (by kernel_rfl) (fun L a v => ∃ s120 s121 s122 s123, a = ⟨#[Value.agg #[Value.slice a1 m c1, Value.slice b1 n d1], Value.pointer (some { block := w.heap.size, off := 0 }), Value.bool false, Value.pointer (some { block := w2.heap.size, off := 0 }), Value.int IntKind.i64 0, Value.pointer (some { block := w3.heap.size, off := 0 }), Value.int IntKind.i64 0, Value.pointer (some { block := w4.heap.size, off := 0 }), Value.int IntKind.i64 0, Value.pointer (some { block := w5.heap.size, off := 0 }), Value.int IntKind.i64 0, Value.bool zz, Value.int IntKind.i64 0, Value.bool zz, undef, u15, undef, Value.agg #[Value.slice a1 m c1, Value.slice b1 n d1], Value.bool true, Value.bool false, undef, Value.tuple #[Value.agg #[Value.slice a2' m c2', Value.slice b2' n d2'], Value.int IntKind.i64 0], Value.agg #[Value.slice a1 m c1, Value.slice b1 n d1], Value.tuple #[Value.agg #[Value.slice a2' m c2', Value.slice b2' n d2'], Value.int IntKind.i64 0], Value.agg #[Value.slice a2' m c2', Value.slice b2' n d2'], Value.int IntKind.i64 0, Value.tuple #[Value.agg #[Value.slice a3' m c3', Value.slice b3' n d3'], Value.int IntKind.i64 0], Value.agg #[Value.slice a1 m c1, Value.slice b1 n d1], Value.tuple #[Value.agg #[Value.slice a3' m c3', Value.slice b3' n d3'], Value.int IntKind.i64 0], Value.agg #[Value.slice a3' m c3', Value.slice b3' n d3'], Value.int IntKind.i64 0, Value.tuple #[Value.agg #[Value.slice a4' m c4', Value.slice b4' n d4'], Value.int IntKind.i64 0], Value.agg #[Value.slice a1 m c1, Value.slice b1 n d1], Value.tuple #[Value.agg #[Value.slice a4' m c4', Value.slice b4' n d4'], Value.int IntKind.i64 0], Value.agg #[Value.slice a4' m c4', Value.slice b4' n d4'], Value.int IntKind.i64 0, Value.tuple #[Value.agg #[Value.slice a5' m c5', Value.slice b5' n d5'], Value.int IntKind.i64 0], Value.agg #[Value.slice a1 m c1, Value.slice b1 n d1], Value.tuple #[Value.agg #[Value.slice a5' m c5', Value.slice b5' n d5'], Value.int IntKind.i64 0], Value.agg #[Value.slice a5' m c5', Value.slice b5' n d5'], Value.int IntKind.i64 0, Value.tuple #[Value.bool zz, Value.int IntKind.i64 0], Value.agg #[Value.slice a1 m c1, Value.slice b1 n d1], Value.tuple #[Value.bool zz, Value.int IntKind.i64 0], Value.bool zz, Value.int IntKind.i64 0, Value.agg #[Value.slice a1 m c1, Value.slice b1 n d1], Value.bool true, Value.bool false, undef, undef, undef, undef, undef, undef, undef, undef, undef, undef, undef, undef, undef, undef, undef, undef, undef, undef, undef, undef, undef, undef, undef, undef, undef, undef, undef, undef, undef, undef, undef, undef, undef, undef, undef, undef, undef, undef, undef, undef, undef, undef, undef, undef, undef, undef, undef, Value.pointer (some { block := w.heap.size, off := 1 }), Value.slice b1 n d1, Value.int IntKind.i64 (n : Int), Value.int IntKind.i64 (k : Int), Value.bool false, u101, u102, u103, u104, u105, u106, u107, u108, s109, s110, s111, .bool true, .bool true, s114, s115, s116, .bool true, .bool true, .bool true, s120, s121, s122, s123, undef, undef, undef, undef, undef, undef, undef, undef, undef, undef, undef, undef, undef, undef, undef, undef, undef, undef, undef, undef, undef, undef, undef, undef, undef, undef, undef, undef, undef, undef, undef, undef, undef, undef, undef, undef], []⟩ ∧ Ce2 v9 (.agg #[.slice a4' m c4', .slice b4' n d4']) (.agg #[.slice a1 m c1, .slice b1 n d1]) zs m n (qs.map kStep) 40 L v s120 s121 s122 s123) ?_ ?_ ?_
    · exact ⟨_, _, _, _, rfl, ⟨part_size (by decide), fun j hj => part_lo hj, Below.refl _ _, fun g => absurd g (part_off (by decide)), fun g => absurd g (part_off (by decide)), fun g => absurd g (part_off (by decide)), fun g => absurd g (part_off (by decide))⟩⟩
    · intro L a v i hL9 hlt hI hrd
      obtain ⟨s120, s121, s122, s123, rfl, hP⟩ := hI
      obtain ⟨hu, o9, ho, haf⟩ := mem_ready.1 hrd
      have hge : 11 ≤ i := Nat.le_of_not_lt fun c => off_of hu (hP.lo i c)
      have y10 := cell_below hP.bl K10
      have y11 := cell_below hP.bl K11
      have yr0 := cell_below hP.bl Kr0
      have yr1 := cell_below hP.bl Kr1
      have yb0 := cell_below hP.bl Kb0
      have yb1 := cell_below hP.bl Kb1
      have ys0 := cell_below hP.bl Ks0
      have ys1 := cell_below hP.bl Ks1
      have yn0 := cell_below hP.bl Kn0
      have yn1 := cell_below hP.bl Kn1
      rcases (by omega : i = 11 ∨ i = 12 ∨ i = 13 ∨ i = 14) with rfl | rfl | rfl | rfl
      all_goals (cases ho; replace hu := off_of hu)
      · have hP2 := hP.t0
        refine step_runw rfl (by first | rfl | go_simp) ?_
        go_simp
        exact ⟨_, _, _, _, ⟨rfl, rfl, rfl, rfl⟩, hP2⟩
      · have hP2 := hP.t1
        refine step_runw rfl (by first | rfl | go_simp) ?_
        go_simp
        exact ⟨_, _, _, _, ⟨rfl, rfl, rfl, rfl⟩, hP2⟩
      · skip
        have e1 := (hP.h1 (haf { on := 12, ground := .data } (by simp) rfl)).symm
        subst e1
        refine step_runw rfl (by first | rfl | go_simp) ?_
        go_simp
        refine (hE9 v hP.bl).mono ?_
        rintro e v9 ⟨a9, c9, b9, d9, rfl, hz, hb9⟩
        have hP2 := hP.t2 ⟨a9, c9, b9, d9, rfl, hz⟩ hb9
        go_simp
        exact ⟨_, _, _, _, ⟨rfl, rfl, rfl, rfl⟩, hP2⟩
      · have e0 := (hP.h0 (haf { on := 11, ground := .data } (by simp) rfl)).symm
        obtain ⟨a7, c7, b7, d7, e3, h9⟩ := hP.h2 (haf { on := 13, ground := .data } (by simp) rfl)
        replace e3 := e3.symm
        subst e0 e3
        refine step_runw rfl (by first | rfl | go_simp) ?_
        go_simp
        refine (zeq c4' d4' c7 d7 (HTs.out.below hP.bl) h9 rfl).mono ?_
        rintro e v9 ⟨rfl, hb9⟩
        have hP2 := hP.t3 hb9
        go_simp
        exact ⟨_, _, _, _, ⟨rfl, rfl, rfl, rfl⟩, hP2⟩
    intro L a v15 hon hI
    obtain ⟨s120, s121, s122, s123, rfl, hP⟩ := hI
    have e9 := (hP.h3 (hon 14 (by decide))).symm
    have hb := hP.bl
    clear hP hon
    subst e9
    have hu := hb
    replace HB : Hid _ := bl_trans HB.out hu
    replace HTa : Hid _ := HTa.out.below hu
    replace HTr : Hid _ := HTr.out.below hu
    replace HTb : Hid _ := HTb.out.below hu
    replace HTs : Hid _ := HTs.out.below hu
    replace HTn : Hid _ := HTn.out.below hu
    replace K10 := cell_below hu K10
    replace K11 := cell_below hu K11
    replace Kr0 := cell_below hu Kr0
    replace Kr1 := cell_below hu Kr1
    replace Kb0 := cell_below hu Kb0
    replace Kb1 := cell_below hu Kb1
    replace Ks0 := cell_below hu Ks0
    replace Ks1 := cell_below hu Ks1
    replace Kn0 := cell_below hu Kn0
    replace Kn1 := cell_below hu Kn1
    clear hu
    clear hb
    clear hE9
    refine any_one 15 _ (by kernel_rfl) rfl (fun K hK => ?_)
    go_simp
    refine hK _ _ ?_
    clear hK K
    refine any_one 16 _ (by kernel_rfl) rfl (fun K hK => ?_)
    go_simp
    refine hK _ _ ?_
    clear hK K
    have hE9 := fun (v : World) (hv : Below v15.heap.size v15 v) => reach_any nSign kSign (fun q v hq => one_sign q v hq) (fun q k h => bd_sign h) a1 b1 c1 d1 m n 0 zs qs v (HTa.out.below hv)
    unfold nSign at hE9
    refine any_next 17 21 (by kernel_rfl) (by decide) (by kernel_rfl) (by kernel_rfl) (fun L a v => ∃ s126 s127 s128 s129, a = ⟨#[Value.agg #[Value.slice a1 m c1, Value.slice b1 n d1], Value.pointer (some { block := w.heap.size, off := 0 }), Value.bool false, Value.pointer (some { block := w2.heap.size, off := 0 }), Value.int IntKind.i64 0, Value.pointer (some { block := w3.heap.size, off := 0 }), Value.int IntKind.i64 0, Value.pointer (some { block := w4.heap.size, off := 0 }), Value.int IntKind.i64 0, Value.pointer (some { block := w5.heap.size, off := 0 }), Value.int IntKind.i64 0, Value.bool zz, Value.int IntKind.i64 0, Value.bool zz, undef, u15, undef, Value.agg #[Value.slice a1 m c1, Value.slice b1 n d1], Value.bool true, Value.bool false, undef, Value.tuple #[Value.agg #[Value.slice a2' m c2', Value.slice b2' n d2'], Value.int IntKind.i64 0], Value.agg #[Value.slice a1 m c1, Value.slice b1 n d1], Value.tuple #[Value.agg #[Value.slice a2' m c2', Value.slice b2' n d2'], Value.int IntKind.i64 0], Value.agg #[Value.slice a2' m c2', Value.slice b2' n d2'], Value.int IntKind.i64 0, Value.tuple #[Value.agg #[Value.slice a3' m c3', Value.slice b3' n d3'], Value.int IntKind.i64 0], Value.agg #[Value.slice a1 m c1, Value.slice b1 n d1], Value.tuple #[Value.agg #[Value.slice a3' m c3', Value.slice b3' n d3'], Value.int IntKind.i64 0], Value.agg #[Value.slice a3' m c3', Value.slice b3' n d3'], Value.int IntKind.i64 0, Value.tuple #[Value.agg #[Value.slice a4' m c4', Value.slice b4' n d4'], Value.int IntKind.i64 0], Value.agg #[Value.slice a1 m c1, Value.slice b1 n d1], Value.tuple #[Value.agg #[Value.slice a4' m c4', Value.slice b4' n d4'], Value.int IntKind.i64 0], Value.agg #[Value.slice a4' m c4', Value.slice b4' n d4'], Value.int IntKind.i64 0, Value.tuple #[Value.agg #[Value.slice a5' m c5', Value.slice b5' n d5'], Value.int IntKind.i64 0], Value.agg #[Value.slice a1 m c1, Value.slice b1 n d1], Value.tuple #[Value.agg #[Value.slice a5' m c5', Value.slice b5' n d5'], Value.int IntKind.i64 0], Value.agg #[Value.slice a5' m c5', Value.slice b5' n d5'], Value.int IntKind.i64 0, Value.tuple #[Value.bool zz, Value.int IntKind.i64 0], Value.agg #[Value.slice a1 m c1, Value.slice b1 n d1], Value.tuple #[Value.bool zz, Value.int IntKind.i64 0], Value.bool zz, Value.int IntKind.i64 0, Value.agg #[Value.slice a1 m c1, Value.slice b1 n d1], Value.bool true, Value.bool false, undef, undef, undef, undef, undef, undef, undef, undef, undef, undef, undef, undef, undef, undef, undef, undef, undef, undef, undef, undef, undef, undef, undef, undef, undef, undef, undef, undef, undef, undef, undef, undef, undef, undef, undef, undef, undef, undef, undef, undef, undef, undef, undef, undef, undef, undef, undef, Value.pointer (some { block := w.heap.size, off := 1 }), Value.slice b1 n d1, Value.int IntKind.i64 (n : Int), Value.int IntKind.i64 (k : Int), Value.bool false, u101, u102, u103, u104, u105, u106, u107, u108, s109, s110, s111, .bool true, .bool true, s114, s115, s116, .bool true, .bool true, .bool true, s120, s121, s122, .bool true, .bool true, .bool true, s126, s127, s128, s129, undef, undef, undef, undef, undef, undef, undef, undef, undef, undef, undef, undef, undef, undef, undef, undef, undef, undef, undef, undef, undef, undef, undef, undef, undef, undef, undef, undef, undef, undef], []⟩ ∧ Ce3 v15 (.agg #[.slice a5' m c5', .slice b5' n d5']) (.agg #[.slice a1 m c1, .slice b1 n d1]) zs m n (qs.map kSign) 40 L v s126 s127 s128 s129) ?_ ?_ ?_
    · exact ⟨_, _, _, _, rfl, ⟨part_size (by decide), fun j hj => part_lo hj, Below.refl _ _, fun g => absurd g (part_off (by decide)), fun g => absurd g (part_off (by decide)), fun g => absurd g (part_off (by decide)), fun g => absurd g (part_off (by decide))⟩⟩
    · intro L a v i hL9 hlt hI hrd
      obtain ⟨s126, s127, s128, s129, rfl, hP⟩ := hI
      obtain ⟨hu, o9, ho, haf⟩ := mem_ready.1 hrd
      have hge : 17 ≤ i := Nat.le_of_not_lt fun c => off_of hu (hP.lo i c)
      have y10 := cell_below hP.bl K10
      have y11 := cell_below hP.bl K11
      have yr0 := cell_below hP.bl Kr0
      have yr1 := cell_below hP.bl Kr1
      have yb0 := cell_below hP.bl Kb0
      have yb1 := cell_below hP.bl Kb1
      have ys0 := cell_below hP.bl Ks0
      have ys1 := cell_below hP.bl Ks1
      have yn0 := cell_below hP.bl Kn0
      have yn1 := cell_below hP.bl Kn1
      rcases (by omega : i = 17 ∨ i = 18 ∨ i = 19 ∨ i = 20) with rfl | rfl | rfl | rfl
      all_goals (cases ho; replace hu := off_of hu)
      · have hP2 := hP.t0
        refine step_runw rfl (by first | rfl | go_simp) ?_
        go_simp
        exact ⟨_, _, _, _, ⟨rfl, rfl, rfl, rfl⟩, hP2⟩
      · have hP2 := hP.t1
        refine step_runw rfl (by first | rfl | go_simp) ?_
        go_simp
        exact ⟨_, _, _, _, ⟨rfl, rfl, rfl, rfl⟩, hP2⟩
      · skip
        have e1 := (hP.h1 (haf { on := 18, ground := .data } (by simp) rfl)).symm
        subst e1
        refine step_runw rfl (by first | rfl | go_simp) ?_
        go_simp
        refine (hE9 v hP.bl).mono ?_
        rintro e v9 ⟨a9, c9, b9, d9, rfl, hz, hb9⟩
        have hP2 := hP.t2 ⟨a9, c9, b9, d9, rfl, hz⟩ hb9
        go_simp
        exact ⟨_, _, _, _, ⟨rfl, rfl, rfl, rfl⟩, hP2⟩
      · have e0 := (hP.h0 (haf { on := 17, ground := .data } (by simp) rfl)).symm
        obtain ⟨a7, c7, b7, d7, e3, h9⟩ := hP.h2 (haf { on := 19, ground := .data } (by simp) rfl)
        replace e3 := e3.symm
        subst e0 e3
        refine step_runw rfl (by first | rfl | go_simp) ?_
        go_simp
        refine (zeq c5' d5' c7 d7 (HTn.out.below hP.bl) h9 rfl).mono ?_
        rintro e v9 ⟨rfl, hb9⟩
        have hP2 := hP.t3 hb9
        go_simp
        exact ⟨_, _, _, _, ⟨rfl, rfl, rfl, rfl⟩, hP2⟩
    intro L a v21 hon hI
    obtain ⟨s126, s127, s128, s129, rfl, hP⟩ := hI
    have e9 := (hP.h3 (hon 20 (by decide))).symm
    have hb := hP.bl
    clear hP hon
    subst e9
    have hu := hb
    replace HB : Hid _ := bl_trans HB.out hu
    replace HTa : Hid _ := HTa.out.below hu
    replace HTr : Hid _ := HTr.out.below hu
    replace HTb : Hid _ := HTb.out.below hu
    replace HTs : Hid _ := HTs.out.below hu
    replace HTn : Hid _ := HTn.out.below hu
    replace K10 := cell_below hu K10
    replace K11 := cell_below hu K11
    replace Kr0 := cell_below hu Kr0
    replace Kr1 := cell_below hu Kr1
    replace Kb0 := cell_below hu Kb0
    replace Kb1 := cell_below hu Kb1
    replace Ks0 := cell_below hu Ks0
    replace Ks1 := cell_below hu Ks1
    replace Kn0 := cell_below hu Kn0
    replace Kn1 := cell_below hu Kn1
    clear hu
    clear hb
    clear hE9
    refine any_one 21 _ (by kernel_rfl) rfl (fun K hK => ?_)
    go_simp
    refine hK _ _ ?_
    clear hK K
    refine any_one 22 _ (by kernel_rfl) rfl (fun K hK => ?_)
    go_simp
    refine hK _ _ ?_
    clear hK K
    refine any_end (by kernel_rfl) ?_
    cases zz
    all_goals
      go_wp2_with fail
      refine (awake_any aF aZ _ (HE.out.below HB.out)).mono ?_
      rintro e w8 ⟨rfl, hb⟩
      have hu := hb
      replace HB : Hid _ := bl_trans HB.out hu
      clear hu
      clear hb
      go_wp2
      go_ret
      exact ⟨rfl, HB.out⟩
theorem leach_any (a1 b1 : Option Addr) (c1 d1 : Nat) (zs : List Int) (xs : List ByteArray) (aF aZ : Addr) (w : World) (hE : Er w aF aZ) (h1 : Tm w 0 a1 b1 zs xs) :
    Calls Tryz.prog 3 #[.agg #[.slice a1 zs.length c1, .slice b1 xs.length d1]] w fun e w' => e = .returned (.bool true) ∧ Below w.heap.size w w' := by
  have S1 := fun (v : World) (hv : Below w.heap.size w v) => small_below c1 d1 (h1.below hv)
  cases e1 : small zs xs with
  | false => rw [e1] at S1; exact leach_long a1 b1 c1 d1 _ _ aF aZ w hE S1
  | true =>
    rw [e1] at S1
    have A1 := Ta.small h1 e1
    have R1 := fun (v : World) (hv : Below w.heap.size w v) => (A1.below hv).rright e1 c1 d1
    cases t1 : tn zs xs with
    | false => rw [t1] at R1; exact leach_no a1 b1 c1 d1 _ _ aF aZ w hE S1 (fun v hv => zrelu_no c1 d1 (hE.below hv) (A1.below hv) rfl rfl t1) (fun v hv => zabs_no c1 d1 (hE.below hv) (A1.below hv) rfl rfl t1) (fun v hv => zstep_no c1 d1 (hE.below hv) (A1.below hv) rfl rfl t1) (fun v hv => zsign_no c1 d1 (hE.below hv) (A1.below hv) rfl rfl t1) (fun v hv => zflat_no c1 d1 (hE.below hv) (A1.below hv) rfl rfl t1) R1
    | true =>
      rw [t1] at R1
      obtain ⟨qs, ex, T1⟩ := Tt.small h1 e1 t1
      exact leach_good a1 b1 c1 d1 _ _ zs qs aF aZ w hE S1 R1 T1
end Go.Proofs.YtjkobbpebnkimaaGreatDoor.Tn
