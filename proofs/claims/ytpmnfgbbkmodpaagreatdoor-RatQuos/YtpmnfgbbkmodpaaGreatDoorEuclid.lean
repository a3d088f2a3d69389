/-
  THE PARTS OF THE GREATEST COMMON DIVISOR: what a call of smallDivisor, digitsFrom and leading gives. Conditions: sizes; the limbs' form.
-/
import Derived.Test.YtpmnfgbbkmodpaaGreatDoorDiv
import Derived.Test.YtpmnfgbbkmodpaaGreatDoorNmGcd
namespace Go.Proofs.YtpmnfgbbkmodpaaGreatDoor
set_option maxRecDepth 100000
open Go.RowKit Nm
set_option linter.unusedVariables false

def two (x y : Nat) : Nat → Nat := fun i => if i = 0 then x else y

theorem Ow.two (w : World) (x y : Nat) : Ow (w.alloc (.cells #[.int .i64 (x : Nat), .int .i64 (y : Nat)] 2)) .i64 w.heap.size (two x y) 2 := by
  refine ⟨fun i hi => ?_, fun i => ?_, by simp⟩
  · rw [World.cell?_alloc_new]
    match i, hi with
    | 0, _ => rfl
    | 1, _ => rfl
  · rw [World.frozen?_alloc_new]

theorem lv_two' (f : Nat → Nat) (n : Nat) (h : n ≤ 2) : ext f n 1 * 1000000000 + ext f n 0 = lv f n := by
  rw [← lv_ext (f := f) h]
  simp [lv]
  omega

set_option maxHeartbeats 1000000 in
theorem smallDivisor_any (b1 n1 c1 b2 n2 c2 : Nat) (f g : Nat → Nat) (w : World) (hn1 : n1 ≤ 2) (hn2 : n2 ≤ 2) (h1 : Rw w b1 0 f n1) (h2 : Rw w b2 0 g n2) (hf : ∀ i, i < n1 → f i < 1000000000) (hg : ∀ i, i < n2 → g i < 1000000000) :
    Calls Tryz.prog 123 #[.slice (some ⟨b1, 0, none⟩) n1 c1, .slice (some ⟨b2, 0, none⟩) n2 c2] w fun e w' => Res w (Nat.gcd (lv f n1) (lv g n2)) e w' := by
  have a0 := ext_lt hf 0
  have a1 := ext_lt hf 1
  have d0 := ext_lt hg 0
  have d1 := ext_lt hg 1
  have HF : Hid _ := lv_two' f n1 hn1
  have HG : Hid _ := lv_two' g n2 hn2
  go_enter Tryz.func123, Tryz.ntmps123
  go_wp2_with fail
  refine (at_any b1 0 n1 c1 1 f _ (by omega) h1).mono ?_
  rintro e w1 ⟨rfl, rfl⟩
  go_wp2_with fail
  refine (at_any b1 0 n1 c1 0 f _ (by omega) h1).mono ?_
  rintro e w1 ⟨rfl, rfl⟩
  go_wp2_with fail
  refine (at_any b2 0 n2 c2 1 g _ (by omega) h2).mono ?_
  rintro e w1 ⟨rfl, rfl⟩
  go_wp2_with fail
  refine (at_any b2 0 n2 c2 0 g _ (by omega) h2).mono ?_
  rintro e w1 ⟨rfl, rfl⟩
  generalize ext f n1 1 = u1 at *
  generalize ext f n1 0 = u0 at *
  generalize ext g n2 1 = v1 at *
  generalize ext g n2 0 = v0 at *
  go_wp2_with fail
  go_loopw [5, 6] (fun x y wr => ∃ u v : Nat, x = .int .i64 (u : Nat) ∧ y = .int .i64 (v : Nat) ∧ u < 1000000000000000000 ∧ v < 1000000000000000000 ∧ Nat.gcd u v = Nat.gcd (lv f n1) (lv g n2) ∧ Sm w1 wr) (fun _ y _ => (intOf y).toNat)
  case atStart => exact ⟨u1 * 1000000000 + u0, v1 * 1000000000 + v0, by simp, by simp, by omega, by omega, by rw [HF.out, HG.out], Sm.refl _⟩
  case round =>
    obtain ⟨u, v, rfl, rfl, hu, hv, hgcd, hS⟩ := hrel
    have HC : Hid _ := hgcd
    clear hgcd
    rcases Nat.eq_zero_or_pos v with c | c
    · subst c
      have hz : (((0 : Nat) : Int) != 0) = false := by simp
      have HR : Hid (lv (two (u % 1000000000) (u / 1000000000)) 2 = Nat.gcd (lv f n1) (lv g n2)) := by
        show _ = _
        rw [← HC.out, Nat.gcd_zero_right]
        simp [lv, two]
        omega
      have hO := Ow.two wr (u % 1000000000) (u / 1000000000)
      have hSh := Shp.new wr #[.int .i64 ((u % 1000000000 : Nat) : Int), .int .i64 ((u / 1000000000 : Nat) : Int)] (by simp)
      simp only [Int.natCast_ediv, Int.natCast_emod, Int.cast_ofNat_Int] at hO hSh
      have hB : Below w1.heap.size w1 (wr.alloc (.cells #[.int .i64 ((u : Int) % 1000000000), .int .i64 ((u : Int) / 1000000000)] 2)) := (hS.below _).alloc (by rw [hS.heap]; exact Nat.le_refl _) _
      go_wp2_with fail
      refine (trim_any wr.heap.size 0 2 2 _ _ (by omega) (by omega) (by omega) hO.rw).mono ?_
      rintro e w2 ⟨⟨n, hn, hzero, htop, rfl⟩, rfl⟩
      go_wp2
      go_ret
      refine ⟨wr.heap.size, n, 2, _, rfl, ⟨fun i hi => hO.cell i (by omega), hO.frz, hO.lt⟩, hn, by omega, by rw [hS.heap]; exact Nat.le_refl _, ⟨fun i hi => ?_, htop⟩, by rw [← lv_cut hn hzero, HR.out], hB⟩
      unfold two; split <;> omega
    · have hz : (((v : Nat) : Int) != 0) = true := by rw [bne_iff_ne]; omega
      have hm : u % v < v := Nat.mod_lt _ c
      have HR : Hid (Nat.gcd v (u % v) = Nat.gcd (lv f n1) (lv g n2)) := by
        show _ = _
        rw [← HC.out, Nat.gcd_comm v, ← Nat.gcd_rec, Nat.gcd_comm]
      go_wp2_with fail
      go_quiet (fail)
      go_wp2
      go_roundw
      case rel => exact ⟨v, u % v, rfl, by simp, hv, by omega, HR.out, hS.trans (Sm.drewN _ _)⟩
      case measure => simp [intOf]; omega
end Go.Proofs.YtpmnfgbbkmodpaaGreatDoor
