/-
  ArrayProducts, WALKED: the call answers true, whatever two tensors are handed in. Conditions: what the arguments hold.
-/
import Derived.Test.YtbfboippaejnmaaGreatDoorLc
import Derived.Test.YtbfboippaejnmaaGreatDoorWProd1
import Derived.Test.YtbfboippaejnmaaGreatDoorWProd2
import Derived.Test.YtbfboippaejnmaaGreatDoorWProd3
namespace Go.Proofs.YtbfboippaejnmaaGreatDoor.Tn
set_option maxRecDepth 100000
open Go.RowKit Nm
set_option linter.unusedVariables false

theorem products_any (a1 b1 a2 b2 : Option Addr) (c1 d1 c2 d2 : Nat) (zs us : List Int) (xs ys : List ByteArray) (aF aZ : Addr) (w : World) (hE : Er w aF aZ) (h1 : Tm w 0 a1 b1 zs xs) (h2 : Tm w 0 a2 b2 us ys) :
    Calls Tryz.prog 3 #[.agg #[.slice a1 zs.length c1, .slice b1 xs.length d1], .agg #[.slice a2 us.length c2, .slice b2 ys.length d2]] w fun e w' => e = .returned (.bool true) ∧ Below w.heap.size w w' := by
  have S1 := fun (v : World) (hv : Below w.heap.size w v) => small_below c1 d1 (h1.below hv)
  have S2 := fun (v : World) (hv : Below w.heap.size w v) => small_below c2 d2 (h2.below hv)
  cases e1 : small zs xs with
  | false => rw [e1] at S1; exact prod_long1 a1 b1 a2 b2 c1 d1 _ _ c2 d2 _ _ aF aZ w hE S1
  | true =>
    rw [e1] at S1
    cases e2 : small us ys with
    | false => rw [e2] at S2; exact prod_long2 a1 b1 a2 b2 c1 d1 _ _ c2 d2 _ _ aF aZ w hE S1 S2
    | true =>
      rw [e2] at S2
      have A1 := Ta.small h1 e1
      have A2 := Ta.small h2 e2
      have R1 := fun (v : World) (hv : Below w.heap.size w v) => (A1.below hv).rright e1 c1 d1
      have R2 := fun (v : World) (hv : Below w.heap.size w v) => (A2.below hv).rright e2 c2 d2
      have M := fun (hf : ¬ Fit zs us xs ys) (v : World) (hv : Below w.heap.size w v) => zfail_mm (m1 := zs.length) (n1 := xs.length) (m2 := us.length) (n2 := ys.length) c1 d1 c2 d2 (hE.below hv) (A1.below hv) (A2.below hv) rfl rfl rfl rfl hf
      have X := fun (hf : ¬ (tn zs xs = true ∧ zs.length = 2)) (v : World) (hv : Below w.heap.size w v) => zfail_tr (m1 := zs.length) (n1 := xs.length) c1 d1 (hE.below hv) (A1.below hv) rfl rfl hf
      cases t1 : tn zs xs with
      | false =>
        have M1 := M (fun c => by have := c.1; rw [t1] at this; cases this)
        have X1 := X (fun c => by have := c.1; rw [t1] at this; cases this)
        rw [t1] at M1 X1 R1
        exact prod_bad a1 b1 a2 b2 c1 d1 _ _ c2 d2 _ _ _ aF aZ w hE S1 S2 M1 X1 R1 R2
      | true =>
        by_cases l2 : zs.length = 2
        · by_cases hf : Fit zs us xs ys
          · obtain ⟨_, t2, p, q, s, rfl, rfl, hps⟩ := hf
            rw [t1] at R1
            rw [t2] at R2
            obtain ⟨qs, ex, T1⟩ := Tt.small h1 e1 t1
            obtain ⟨rs, ey, T2⟩ := Tt.small h2 e2 t2
            obtain ⟨x, y, rfl, x0, x1⟩ := sl_two T1.tm.s
            obtain ⟨x2, y2, rfl, y0, y1⟩ := sl_two T2.tm.s
            obtain ⟨g, f, eb, _⟩ := row_str T1.tm.r (i := 0) (by rw [mapR_len, T1.hn]; exact T1.le.2.1)
            subst eb
            exact prod_good x y g f x2 y2 b2 c1 d1 _ c2 d2 _ p q s _ qs rs aF aZ w hE S1 S2 R1 R2 T1 x0 x1 T2 y0 y1 hps rfl
          · have M1 := M hf
            rw [t1] at R1
            obtain ⟨qs, ex, T1⟩ := Tt.small h1 e1 t1
            obtain ⟨p, q, rfl⟩ := of_two T1.tr.r l2
            obtain ⟨x, y, rfl, x0, x1⟩ := sl_two T1.tm.s
            obtain ⟨g, f, eb, _⟩ := row_str T1.tm.r (i := 0) (by rw [mapR_len, T1.hn]; exact T1.le.2.1)
            subst eb
            cases t2 : tn us ys with
            | false =>
              rw [t1, t2] at M1
              rw [t2] at R2
              exact prod_two_no x y g f a2 b2 c1 d1 _ c2 d2 _ _ p q qs false 1 aF aZ w hE S1 S2 R1 R2 T1 x0 x1 M1 (Or.inl ⟨rfl, rfl⟩)
            | true =>
              rw [t1, t2] at M1
              rw [t2] at R2
              by_cases l3 : us.length = 2
              · obtain ⟨rs, ey, T2⟩ := Tt.small h2 e2 t2
                obtain ⟨r, s, rfl⟩ := of_two T2.tr.r l3
                obtain ⟨x2, y2, rfl, y0, y1⟩ := sl_two T2.tm.s
                have k := T2.two
                have hs := (two_le ⟨k.2.2.1, k.2.2.2.1, k.2.2.2.2⟩).2
                refine prod_two_no x y g f _ b2 c1 d1 _ c2 d2 _ _ p q qs true 4 aF aZ w hE S1 S2 R1 R2 T1 x0 x1 M1 (Or.inr (Or.inr ⟨rfl, rfl, rfl, x2, y2, r, s, rfl, fun v hv => ⟨cell_below hv y0, cell_below hv y1⟩, hs, ?_⟩))
                by_cases hq : q = r
                · refine Or.inr ⟨hq, ?_⟩
                  have : ¬ p * s ≤ 64 := fun c => hf ⟨t1, t2, p, q, s, rfl, by rw [hq], c⟩
                  omega
                · exact Or.inl hq
              · exact prod_two_no x y g f a2 b2 c1 d1 _ c2 d2 _ _ p q qs true 4 aF aZ w hE S1 S2 R1 R2 T1 x0 x1 M1 (Or.inr (Or.inl ⟨rfl, rfl, int_no (k := 2) l3, int_ne (k := 2) l3⟩))
        · have X1 := X (fun c => l2 c.2)
          have M1 := M (fun c => by obtain ⟨_, _, p, n, q, e, _⟩ := c; rw [e] at l2; exact l2 rfl)
          rw [t1] at R1 X1 M1
          cases t2 : tn us ys with
          | false => rw [t2] at M1 R2; exact prod_flat_n a1 b1 a2 b2 c1 d1 _ _ c2 d2 _ _ aF aZ w hE S1 S2 M1 X1 R1 R2 (int_no (k := 2) l2) (int_ne (k := 2) l2)
          | true => rw [t2] at M1 R2; exact prod_flat_y a1 b1 a2 b2 c1 d1 _ _ c2 d2 _ _ aF aZ w hE S1 S2 M1 X1 R1 R2 (int_no (k := 2) l2) (int_ne (k := 2) l2)
end Go.Proofs.YtbfboippaejnmaaGreatDoor.Tn
