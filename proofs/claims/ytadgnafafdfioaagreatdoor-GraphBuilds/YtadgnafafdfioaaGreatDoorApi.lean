/-
  THE EXPORTED CALLS OF PACKAGE rat. Conditions: each theorem's own.
-/
import Derived.Test.YtadgnafafdfioaaGreatDoorBoth
import Derived.Test.YtadgnafafdfioaaGreatDoorMix
namespace Go.Proofs.YtadgnafafdfioaaGreatDoor
section
set_option maxRecDepth 100000
open Go.RowKit Nm
set_option linter.unusedVariables false

end
end Go.Proofs.YtadgnafafdfioaaGreatDoor
namespace Go.Proofs.YtadgnafafdfioaaGreatDoor
section
set_option maxRecDepth 100000
open Go.RowKit Nm
set_option linter.unusedVariables false

/-- a fraction, the answer's place and a power of it, in three blocks of the call's own -/
structure Pw (w v : World) (x1 x2 a b : ByteArray) : Prop where
  c0 : v.cell? ⟨w.heap.size, 0, none⟩ = some (.string x1)
  c1 : v.cell? ⟨w.heap.size, 1, none⟩ = some (.string x2)
  z0 : v.cell? ⟨w.heap.size + 1, 0, none⟩ = some (.string ⟨#[]⟩)
  z1 : v.cell? ⟨w.heap.size + 1, 1, none⟩ = some (.string ⟨#[]⟩)
  p0 : v.cell? ⟨w.heap.size + 1 + 1, 0, none⟩ = some (.string a)
  p1 : v.cell? ⟨w.heap.size + 1 + 1, 1, none⟩ = some (.string b)
  g0 : v.frozen? ⟨w.heap.size + 1, 0, none⟩ = false
  g1 : v.frozen? ⟨w.heap.size + 1, 1, none⟩ = false
  f0 : v.frozen? ⟨w.heap.size + 1 + 1, 0, none⟩ = false
  f1 : v.frozen? ⟨w.heap.size + 1 + 1, 1, none⟩ = false
  B : Below w.heap.size w v
theorem frozen_below {w v : World} (h : Below w.heap.size w v) {a : Addr} (hl : a.block < w.heap.size) (e : w.frozen? a = false) : v.frozen? a = false := by
  have := h.block a.block hl
  rw [← e]; unfold World.frozen?; rw [this]
theorem Pw.below {w v u : World} {x1 x2 a b : ByteArray} (h : Pw w v x1 x2 a b) (k : Below v.heap.size v u) : Pw w u x1 x2 a b :=
  ⟨cell_below k h.c0, cell_below k h.c1, cell_below k h.z0, cell_below k h.z1, cell_below k h.p0, cell_below k h.p1,
    frozen_below k (lt_of_cell h.z0) h.g0, frozen_below k (lt_of_cell h.z1) h.g1, frozen_below k (lt_of_cell h.p0) h.f0, frozen_below k (lt_of_cell h.p1) h.f1, bl_trans h.B k⟩
theorem Pw.set0 {w v : World} {x1 x2 a b : ByteArray} (h : Pw w v x1 x2 a b) (c : ByteArray) : Pw w (v.setCell ⟨w.heap.size + 1 + 1, 0, none⟩ (.string c)) x1 x2 c b := by
  obtain ⟨c0, c1, z0, z1, p0, p1, g0, g1, f0, f1, B⟩ := h
  refine ⟨?_, ?_, ?_, ?_, World.cell?_setCell_same _ _ _ p0, ?_, by rw [World.frozen?_setCell]; exact g0, by rw [World.frozen?_setCell]; exact g1, by rw [World.frozen?_setCell]; exact f0, by rw [World.frozen?_setCell]; exact f1, B.setCell (by simp; omega) _⟩
  · rw [World.cell?_setCell_other _ _ _ _ (by intro h; injection h with h1; omega)]; exact c0
  · rw [World.cell?_setCell_other _ _ _ _ (by intro h; injection h with h1; omega)]; exact c1
  · rw [World.cell?_setCell_other _ _ _ _ (by intro h; injection h with h1; omega)]; exact z0
  · rw [World.cell?_setCell_other _ _ _ _ (by intro h; injection h with h1; omega)]; exact z1
  · rw [World.cell?_setCell_other _ _ _ _ (by intro h; injection h with h1 h2; omega)]; exact p1
theorem Pw.set1 {w v : World} {x1 x2 a b : ByteArray} (h : Pw w v x1 x2 a b) (c : ByteArray) : Pw w (v.setCell ⟨w.heap.size + 1 + 1, 1, none⟩ (.string c)) x1 x2 a c := by
  obtain ⟨c0, c1, z0, z1, p0, p1, g0, g1, f0, f1, B⟩ := h
  refine ⟨?_, ?_, ?_, ?_, ?_, World.cell?_setCell_same _ _ _ p1, by rw [World.frozen?_setCell]; exact g0, by rw [World.frozen?_setCell]; exact g1, by rw [World.frozen?_setCell]; exact f0, by rw [World.frozen?_setCell]; exact f1, B.setCell (by simp; omega) _⟩
  · rw [World.cell?_setCell_other _ _ _ _ (by intro h; injection h with h1; omega)]; exact c0
  · rw [World.cell?_setCell_other _ _ _ _ (by intro h; injection h with h1; omega)]; exact c1
  · rw [World.cell?_setCell_other _ _ _ _ (by intro h; injection h with h1; omega)]; exact z0
  · rw [World.cell?_setCell_other _ _ _ _ (by intro h; injection h with h1; omega)]; exact z1
  · rw [World.cell?_setCell_other _ _ _ _ (by intro h; injection h with h1 h2; omega)]; exact p0

theorem tl_pow (n k m : Nat) (h : tl n ≤ m) (hm : 1 ≤ m) : tl (n ^ k) ≤ k * m + 1 := by
  induction k with
  | zero => simp; exact tl_small (by omega)
  | succ k ih =>
    have := tl_mul (n ^ k) n
    rw [Nat.pow_succ]
    rw [Nat.succ_mul]
    omega

end
end Go.Proofs.YtadgnafafdfioaaGreatDoor
namespace Go.Proofs.YtadgnafafdfioaaGreatDoor
section
set_option maxRecDepth 100000
open Go.RowKit Nm
set_option linter.unusedVariables false

theorem R_bd {r : Rat} (h : (R r).size ≤ 50000) : Bd r 100000 := (Bd.of_size h).mono (by omega)

set_option maxHeartbeats 2000000 in
theorem Right_R (a : Rat) (w : World) (ha : (R a).size ≤ 200000) :
    Calls Tryz.prog 50 #[.string (R a)] w fun e w' => e = .returned (.bool true) ∧ Below w.heap.size w w' := by
  have P := fun v => parse_R a v ha
  unfold fr at P
  go_enter Tryz.func50, Tryz.ntmps50
  go_wp2_with fail
  refine (P _).mono ?_
  rintro e v1 ⟨rfl, k1⟩
  have H1 : Hid _ := k1
  clear k1
  go_wp2
  go_ret
  exact ⟨rfl, bl_alloc H1.out _⟩
set_option maxHeartbeats 2000000 in
theorem Right_no (s : ByteArray) (aF aZ : Addr) (w : World) (hE : Er w aF aZ) (hs : s.size ≤ 200000) (h : ra s = false) :
    Calls Tryz.prog 50 #[.string s] w fun e w' => e = .returned (.bool false) ∧ Below w.heap.size w w' := by
  have HE : Hid _ := hE
  have HH : Hid _ := h
  have HS : Hid _ := hs
  clear hE h hs
  go_enter Tryz.func50, Tryz.ntmps50
  go_wp2_with fail
  refine (parse_not s aF aZ _ HS.out HE.out HH.out).mono ?_
  rintro e v1 ⟨rfl, k1⟩
  have H1 : Hid _ := k1
  clear k1
  go_wp2
  go_ret
  exact ⟨rfl, bl_alloc H1.out _⟩
theorem Right_is (s : ByteArray) (b : Bool) (aF aZ : Addr) (w : World) (hE : Er w aF aZ) (hs : s.size ≤ 200000) (h : ra s = b) :
    Calls Tryz.prog 50 #[.string s] w fun e w' => e = .returned (.bool b) ∧ Below w.heap.size w w' := by
  cases b with
  | false => exact Right_no s aF aZ w hE hs h
  | true => obtain ⟨r, rfl⟩ := R_of h; exact Right_R r w hs

end
end Go.Proofs.YtadgnafafdfioaaGreatDoor
