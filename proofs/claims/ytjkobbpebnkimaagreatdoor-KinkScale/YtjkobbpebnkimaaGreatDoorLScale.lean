/-
  KinkScale, WALKED: the call answers true, whatever is handed in. Conditions: what the arguments hold.
-/
import Derived.Test.YtjkobbpebnkimaaGreatDoorWScale
namespace Go.Proofs.YtjkobbpebnkimaaGreatDoor.Tn
set_option maxRecDepth 100000
open Go.RowKit Nm
set_option linter.unusedVariables false

theorem W_minus {z : Int} (h : z < 0) : (W z).data.toList.head? = some 45 := by
  unfold W
  rw [if_pos h]
  rfl
theorem R_minus {r : Rat} (h : r < 0) : (R r).data.toList.head? = some 45 := by
  have hw := W_minus ((num_lt r).1 h)
  by_cases hd : r.den = 1
  · rw [R_one hd]; exact hw
  · rw [R_more hd, List.head?_append, hw]; rfl
theorem head_at {s : ByteArray} {b : UInt8} (h : s.data.toList.head? = some b) (hp : 0 < s.size) : s[0] = b := by
  cases s with
  | mk d =>
    cases d with
    | mk l =>
      cases l with
      | nil => simp at h
      | cons x l => simp at h; exact h
theorem empty_no {s : ByteArray} (h : (s.toList == []) = false) : 0 < s.size := by
  rw [toList_data] at h
  cases s with
  | mk d =>
    cases d with
    | mk l =>
      cases l with
      | nil => simp at h
      | cons x l => show 0 < (x :: l).length; simp
theorem lscale_any (a1 b1 : Option Addr) (c1 d1 : Nat) (zs : List Int) (xs : List ByteArray) (aF aZ : Addr) (w : World) (hE : Er w aF aZ) (y : ByteArray) (h1 : Tm w 0 a1 b1 zs xs) :
    Calls Tryz.prog 10 #[.agg #[.slice a1 zs.length c1, .slice b1 xs.length d1], .string y] w fun e w' => e = .returned (.bool true) ∧ Below w.heap.size w w' := by
  have S1 := fun (v : World) (hv : Below w.heap.size w v) => small_below c1 d1 (h1.below hv)
  cases e1 : small zs xs with
  | false => rw [e1] at S1; exact lscale_long1 a1 b1 c1 d1 _ _ y aF aZ w hE S1
  | true =>
    rw [e1] at S1
    have A1 := Ta.small h1 e1
    by_cases hl : 20 < y.size
    · exact lscale_long2 a1 b1 c1 d1 _ _ y aF aZ w hE S1 hl
    cases he : y.toList == [] with
    | true => exact lscale_empty a1 b1 c1 d1 _ _ y aF aZ w hE S1 hl he
    | false =>
      have hp := empty_no he
      by_cases hm : y[0].toNat = 45
      · exact lscale_minus a1 b1 c1 d1 _ _ y aF aZ w hE S1 hl he hp hm
      have hm2 : (((y[0].toNat : Nat) : Int) == 45) = false := by
        apply beq_false_of_ne
        intro c
        apply hm
        omega
      cases hb : (tn zs xs && ra y) with
      | false => exact lscale_no a1 b1 c1 d1 _ _ y aF aZ w hE S1 hl he hp hm2 (fun v hv => sfail c1 d1 y (hE.below hv) (A1.below hv) rfl rfl (by omega) hb)
      | true =>
        simp only [Bool.and_eq_true] at hb
        obtain ⟨r, rfl⟩ := R_of hb.2
        obtain ⟨qs, ex, T1⟩ := Tt.small h1 e1 hb.1
        have h0 : 0 ≤ r := by
          rcases rat_cases r with c | c | c
          · exact absurd (by rw [head_at (R_minus c) hp]; rfl) hm
          · rw [c]; exact Rat.le_refl
          · exact Rat.le_of_lt c
        exact lscale_good a1 b1 c1 d1 _ _ zs qs r aF aZ w hE S1 T1 ((Bd.of_size (n := 20) (by omega))) h0 hl he hp hm2
end Go.Proofs.YtjkobbpebnkimaaGreatDoor.Tn
