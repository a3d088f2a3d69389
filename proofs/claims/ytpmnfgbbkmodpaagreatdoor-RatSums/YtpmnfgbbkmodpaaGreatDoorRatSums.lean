/-
  THE STATEMENT RatSums: sums, differences, products and quotients of any texts are what the document says, or refused.
  Conditions: none but the row's own and the card's: the listed package variables read as the program's text lays them.
-/
import Derived.Test.YtpmnfgbbkmodpaaGreatDoorLitR
import Derived.Test.YtpmnfgbbkmodpaaGreatDoorReadR
import Derived.Test.YtpmnfgbbkmodpaaGreatDoorRows
import Derived.Test.YtpmnfgbbkmodpaaGreatDoorCards
import Derived.Test.YtpmnfgbbkmodpaaGreatDoorTie
import Derived.WalkKit
import Derived.ProofKit
import Derived.OpenShut
import Derived.ShutString
import Derived.LaidMore
import Derived.Stop.Joined
import Derived.SevenTiedAt
namespace Go.Proofs.YtpmnfgbbkmodpaaGreatDoor
section
set_option maxRecDepth 100000
open Go.RowKit Nm
set_option linter.unusedVariables false

set_option maxHeartbeats 4000000 in
theorem sums_long0 (a b : ByteArray) (aF aZ : Addr) (w : World) (hE : Er w aF aZ) (h : 60 < a.size) :
    Calls Tryz.prog 3 #[.string a, .string b] w fun e w' => e = .returned (.bool true) ∧ Below w.heap.size w w' := by
  have HE : Hid _ := hE
  clear hE
  have HB := Below.refl w.heap.size w
  go_enter Tryz.func3, Tryz.ntmps3
  go_wp2_with fail
  refine (awake_below aF aZ _ _ HE.out HB).mono ?_
  rintro e w1 ⟨rfl, h1⟩
  have HR : Hid _ := h1
  clear h1 HB
  go_wp2
  go_ret
  exact ⟨rfl, HR.out⟩

set_option maxHeartbeats 4000000 in
theorem sums_long1 (a b : ByteArray) (aF aZ : Addr) (w : World) (hE : Er w aF aZ) (h0 : ¬ 60 < a.size) (h : 60 < b.size) :
    Calls Tryz.prog 3 #[.string a, .string b] w fun e w' => e = .returned (.bool true) ∧ Below w.heap.size w w' := by
  have HE : Hid _ := hE
  clear hE
  have HB := Below.refl w.heap.size w
  go_enter Tryz.func3, Tryz.ntmps3
  go_wp2_with fail
  refine (awake_below aF aZ _ _ HE.out HB).mono ?_
  rintro e w2 ⟨rfl, h2⟩
  have HR : Hid _ := h2
  clear h2 HB
  go_wp2
  go_ret
  exact ⟨rfl, HR.out⟩

set_option maxHeartbeats 4000000 in
theorem sums_badA (a b X1 X2 Y1 Y2 : ByteArray) (o2 : Bool) (aF aZ : Addr) (w : World) (hE : Er w aF aZ) (h0 : ¬ 60 < a.size) (h1 : ¬ 60 < b.size)
    (E1 : ∀ v : World, Below w.heap.size w v → Calls Tryz.prog 16 #[.string a, .string b] v fun e w' => e = .returned (.tuple #[.string ⟨#[]⟩, .int .i64 2]) ∧ Below v.heap.size v w')
    (E2 : ∀ v : World, Below w.heap.size w v → Calls Tryz.prog 17 #[.string a, .string b] v fun e w' => e = .returned (.tuple #[.string ⟨#[]⟩, .int .i64 2]) ∧ Below v.heap.size v w')
    (E3 : ∀ v : World, Below w.heap.size w v → Calls Tryz.prog 18 #[.string a, .string b] v fun e w' => e = .returned (.tuple #[.string ⟨#[]⟩, .int .i64 2]) ∧ Below v.heap.size v w')
    (E4 : ∀ v : World, Below w.heap.size w v → Calls Tryz.prog 19 #[.string a, .string b] v fun e w' => e = .returned (.tuple #[.string ⟨#[]⟩, .int .i64 2]) ∧ Below v.heap.size v w')
    (Ra : ∀ v : World, Below w.heap.size w v → Calls Tryz.prog 20 #[.string a] v fun e w' => e = .returned (.tuple #[.agg #[.string X1, .string X2], .bool false]) ∧ Below v.heap.size v w')
    (Rb : ∀ v : World, Below w.heap.size w v → Calls Tryz.prog 20 #[.string b] v fun e w' => e = .returned (.tuple #[.agg #[.string Y1, .string Y2], .bool o2]) ∧ Below v.heap.size v w') :
    Calls Tryz.prog 3 #[.string a, .string b] w fun e w' => e = .returned (.bool true) ∧ Below w.heap.size w w' := by
  have HE : Hid _ := hE
  clear hE
  have HB := Below.refl w.heap.size w
  go_enter Tryz.func3, Tryz.ntmps3
  go_wp2_with fail
  refine (E1 _ HB).mono ?_
  rintro e w3 ⟨rfl, h3⟩
  replace HB := bl_trans HB h3
  clear h3
  go_wp2_with fail
  refine (E2 _ HB).mono ?_
  rintro e w4 ⟨rfl, h4⟩
  replace HB := bl_trans HB h4
  clear h4
  go_wp2_with fail
  refine (E3 _ HB).mono ?_
  rintro e w5 ⟨rfl, h5⟩
  replace HB := bl_trans HB h5
  clear h5
  go_wp2_with fail
  refine (E4 _ HB).mono ?_
  rintro e w6 ⟨rfl, h6⟩
  replace HB := bl_trans HB h6
  clear h6
  go_wp2_with fail
  refine (Ra _ HB).mono ?_
  rintro e w7 ⟨rfl, h7⟩
  replace HB := bl_trans HB h7
  clear h7
  go_wp2_with fail
  refine (Rb _ (bl_alloc HB _)).mono ?_
  rintro e w8 ⟨rfl, k6⟩
  replace HB := bl_trans (bl_alloc HB _) k6
  clear k6
  replace HB := bl_alloc HB (.cells #[.string Y1, .string Y2] 27)
  go_wp2_with fail
  refine (awake_below aF aZ _ _ HE.out HB).mono ?_
  rintro e w9 ⟨rfl, h9⟩
  have HR : Hid _ := h9
  clear h9 HB
  go_wp2
  go_ret
  exact ⟨rfl, HR.out⟩

set_option maxHeartbeats 4000000 in
theorem sums_badB (a b X1 X2 Y1 Y2 : ByteArray) (aF aZ : Addr) (w : World) (hE : Er w aF aZ) (h0 : ¬ 60 < a.size) (h1 : ¬ 60 < b.size)
    (E1 : ∀ v : World, Below w.heap.size w v → Calls Tryz.prog 16 #[.string a, .string b] v fun e w' => e = .returned (.tuple #[.string ⟨#[]⟩, .int .i64 2]) ∧ Below v.heap.size v w')
    (E2 : ∀ v : World, Below w.heap.size w v → Calls Tryz.prog 17 #[.string a, .string b] v fun e w' => e = .returned (.tuple #[.string ⟨#[]⟩, .int .i64 2]) ∧ Below v.heap.size v w')
    (E3 : ∀ v : World, Below w.heap.size w v → Calls Tryz.prog 18 #[.string a, .string b] v fun e w' => e = .returned (.tuple #[.string ⟨#[]⟩, .int .i64 2]) ∧ Below v.heap.size v w')
    (E4 : ∀ v : World, Below w.heap.size w v → Calls Tryz.prog 19 #[.string a, .string b] v fun e w' => e = .returned (.tuple #[.string ⟨#[]⟩, .int .i64 2]) ∧ Below v.heap.size v w')
    (Ra : ∀ v : World, Below w.heap.size w v → Calls Tryz.prog 20 #[.string a] v fun e w' => e = .returned (.tuple #[.agg #[.string X1, .string X2], .bool true]) ∧ Below v.heap.size v w')
    (Rb : ∀ v : World, Below w.heap.size w v → Calls Tryz.prog 20 #[.string b] v fun e w' => e = .returned (.tuple #[.agg #[.string Y1, .string Y2], .bool false]) ∧ Below v.heap.size v w') :
    Calls Tryz.prog 3 #[.string a, .string b] w fun e w' => e = .returned (.bool true) ∧ Below w.heap.size w w' := by
  have HE : Hid _ := hE
  clear hE
  have HB := Below.refl w.heap.size w
  go_enter Tryz.func3, Tryz.ntmps3
  go_wp2_with fail
  refine (E1 _ HB).mono ?_
  rintro e w10 ⟨rfl, h10⟩
  replace HB := bl_trans HB h10
  clear h10
  go_wp2_with fail
  refine (E2 _ HB).mono ?_
  rintro e w11 ⟨rfl, h11⟩
  replace HB := bl_trans HB h11
  clear h11
  go_wp2_with fail
  refine (E3 _ HB).mono ?_
  rintro e w12 ⟨rfl, h12⟩
  replace HB := bl_trans HB h12
  clear h12
  go_wp2_with fail
  refine (E4 _ HB).mono ?_
  rintro e w13 ⟨rfl, h13⟩
  replace HB := bl_trans HB h13
  clear h13
  go_wp2_with fail
  refine (Ra _ HB).mono ?_
  rintro e w14 ⟨rfl, h14⟩
  replace HB := bl_trans HB h14
  clear h14
  go_wp2_with fail
  refine (Rb _ (bl_alloc HB _)).mono ?_
  rintro e w15 ⟨rfl, k6⟩
  replace HB := bl_trans (bl_alloc HB _) k6
  clear k6
  replace HB := bl_alloc HB (.cells #[.string Y1, .string Y2] 27)
  go_wp2_with fail
  refine (awake_below aF aZ _ _ HE.out HB).mono ?_
  rintro e w16 ⟨rfl, h16⟩
  have HR : Hid _ := h16
  clear h16 HB
  go_wp2
  go_ret
  exact ⟨rfl, HR.out⟩

set_option maxHeartbeats 4000000 in
theorem sums_zero (a b X1 X2 Y1 Y2 SS SD SP A1 A2 N1 N2 D1 D2 P1 P2 : ByteArray) (aF aZ : Addr) (w : World) (hE : Er w aF aZ) (h0 : ¬ 60 < a.size) (h1 : ¬ 60 < b.size)
    (E1 : ∀ v : World, Below w.heap.size w v → Calls Tryz.prog 16 #[.string a, .string b] v fun e w' => e = .returned (.tuple #[.string SS, .int .i64 0]) ∧ Below v.heap.size v w')
    (E2 : ∀ v : World, Below w.heap.size w v → Calls Tryz.prog 17 #[.string a, .string b] v fun e w' => e = .returned (.tuple #[.string SD, .int .i64 0]) ∧ Below v.heap.size v w')
    (E3 : ∀ v : World, Below w.heap.size w v → Calls Tryz.prog 18 #[.string a, .string b] v fun e w' => e = .returned (.tuple #[.string SP, .int .i64 0]) ∧ Below v.heap.size v w')
    (E4 : ∀ v : World, Below w.heap.size w v → Calls Tryz.prog 19 #[.string a, .string b] v fun e w' => e = .returned (.tuple #[.string ⟨#[]⟩, .int .i64 3]) ∧ Below v.heap.size v w')
    (Ra : ∀ v : World, Below w.heap.size w v → Calls Tryz.prog 20 #[.string a] v fun e w' => e = .returned (.tuple #[.agg #[.string X1, .string X2], .bool true]) ∧ Below v.heap.size v w')
    (Rb : ∀ v : World, Below w.heap.size w v → Calls Tryz.prog 20 #[.string b] v fun e w' => e = .returned (.tuple #[.agg #[.string Y1, .string Y2], .bool true]) ∧ Below v.heap.size v w')
    (F1 : ∀ v : World, Below w.heap.size w v → Calls Tryz.prog 22 #[.agg #[.string X1, .string X2], .agg #[.string Y1, .string Y2]] v fun e w' => e = .returned (.agg #[.string A1, .string A2]) ∧ Below v.heap.size v w')
    (F2 : ∀ v : World, Below w.heap.size w v → Calls Tryz.prog 21 #[.agg #[.string A1, .string A2]] v fun e w' => e = .returned (.string SS) ∧ Below v.heap.size v w')
    (F3 : ∀ v : World, Below w.heap.size w v → Calls Tryz.prog 23 #[.agg #[.string Y1, .string Y2]] v fun e w' => e = .returned (.agg #[.string N1, .string N2]) ∧ Below v.heap.size v w')
    (F4 : ∀ v : World, Below w.heap.size w v → Calls Tryz.prog 22 #[.agg #[.string X1, .string X2], .agg #[.string N1, .string N2]] v fun e w' => e = .returned (.agg #[.string D1, .string D2]) ∧ Below v.heap.size v w')
    (F5 : ∀ v : World, Below w.heap.size w v → Calls Tryz.prog 21 #[.agg #[.string D1, .string D2]] v fun e w' => e = .returned (.string SD) ∧ Below v.heap.size v w')
    (F6 : ∀ v : World, Below w.heap.size w v → Calls Tryz.prog 24 #[.agg #[.string X1, .string X2], .agg #[.string Y1, .string Y2]] v fun e w' => e = .returned (.agg #[.string P1, .string P2]) ∧ Below v.heap.size v w')
    (F7 : ∀ v : World, Below w.heap.size w v → Calls Tryz.prog 21 #[.agg #[.string P1, .string P2]] v fun e w' => e = .returned (.string SP) ∧ Below v.heap.size v w')
    (F0 : ∀ v : World, Below w.heap.size w v → Calls Tryz.prog 15 #[] v fun e w' => e = .returned (.bool true) ∧ Below v.heap.size v w') (hy : (Y1.toList == [48]) = true) :
    Calls Tryz.prog 3 #[.string a, .string b] w fun e w' => e = .returned (.bool true) ∧ Below w.heap.size w w' := by
  have HE : Hid _ := hE
  clear hE
  have HB := Below.refl w.heap.size w
  go_enter Tryz.func3, Tryz.ntmps3
  go_wp2_with fail
  refine (E1 _ HB).mono ?_
  rintro e w17 ⟨rfl, h17⟩
  replace HB := bl_trans HB h17
  clear h17
  go_wp2_with fail
  refine (E2 _ HB).mono ?_
  rintro e w18 ⟨rfl, h18⟩
  replace HB := bl_trans HB h18
  clear h18
  go_wp2_with fail
  refine (E3 _ HB).mono ?_
  rintro e w19 ⟨rfl, h19⟩
  replace HB := bl_trans HB h19
  clear h19
  go_wp2_with fail
  refine (E4 _ HB).mono ?_
  rintro e w20 ⟨rfl, h20⟩
  replace HB := bl_trans HB h20
  clear h20
  go_wp2_with fail
  refine (Ra _ HB).mono ?_
  rintro e w21 ⟨rfl, h21⟩
  replace HB := bl_trans HB h21
  clear h21
  go_wp2_with fail
  refine (Rb _ (bl_alloc HB _)).mono ?_
  rintro e w22 ⟨rfl, k6⟩
  replace HB := bl_trans (bl_alloc HB _) k6
  have c00 : ∀ v, Below (w22.alloc (.cells #[.string Y1, .string Y2] 27)).heap.size (w22.alloc (.cells #[.string Y1, .string Y2] 27)) v → (∀ i, v.cell? ⟨w21.heap.size, i, none⟩ = #[.string X1, .string X2][i]?) := fun v h => (own1 (w := w21) (bl_trans (bl_alloc k6 _) h)).1
  obtain ⟨C, hC⟩ : ∃ C : World → Prop, C = fun v => Below (w22.alloc (.cells #[.string Y1, .string Y2] 27)).heap.size (w22.alloc (.cells #[.string Y1, .string Y2] 27)) v := ⟨_, rfl⟩
  have c0 : ∀ v, C v → v.cell? ⟨w21.heap.size, 0, none⟩ = some (.string X1) := fun v h => by subst hC; exact c00 v h 0
  have c1 : ∀ v, C v → v.cell? ⟨w21.heap.size, 1, none⟩ = some (.string X2) := fun v h => by subst hC; exact c00 v h 1
  have c2 : ∀ v, C v → v.cell? ⟨w22.heap.size, 0, none⟩ = some (.string Y1) := fun v h => by subst hC; exact (own1 h).1 0
  have c3 : ∀ v, C v → v.cell? ⟨w22.heap.size, 1, none⟩ = some (.string Y2) := fun v h => by subst hC; exact (own1 h).1 1
  have cB : ∀ v, C v → Below w.heap.size w v := fun v h => by subst hC; exact bl_trans (bl_alloc HB _) h
  have cT : ∀ u v, C u → Below u.heap.size u v → C v := fun u v h k => by subst hC; exact h.trans (k.mono h.size)
  have cD : ∀ v, C v → C v.drew := fun v h => by subst hC; exact h.drew
  have cI : C (w22.alloc (.cells #[.string Y1, .string Y2] 27)) := by subst hC; exact Below.refl _ _
  clear hC c00 k6 HB
  go_wp2_with fail
  refine region_calm C (by kernel_rfl) (by kernel_rfl) (cD _ cI) ?_
  clear cI
  refine wpQuiet_step (fun K hK => ?_)
  go_simp
  refine ⟨_, fun v hv => rfl, hK _ ?_⟩
  clear hK K
  refine wpQuiet_step (fun K hK => ?_)
  go_simp
  refine ⟨.agg #[.string X1, .string X2], fun v hv => ?_, hK _ ?_⟩
  · simp [c0 v hv, c1 v hv]
  clear hK K
  refine wpQuiet_step (fun K hK => ?_)
  go_simp
  refine ⟨.agg #[.string Y1, .string Y2], fun v hv => ?_, hK _ ?_⟩
  · simp [c2 v hv, c3 v hv]
  clear hK K
  refine wpQuiet_step (fun K hK => ?_)
  go_simp
  refine ⟨.agg #[.string A1, .string A2], fun v hv => ?_, hK _ ?_⟩
  · exact calm_call cT hv (F1 v (cB v hv))
  clear hK K
  refine wpQuiet_step (fun K hK => ?_)
  go_simp
  refine ⟨.string SS, fun v hv => ?_, hK _ ?_⟩
  · exact calm_call cT hv (F2 v (cB v hv))
  clear hK K
  refine wpQuiet_step (fun K hK => ?_)
  go_simp
  refine ⟨_, fun v hv => rfl, hK _ ?_⟩
  clear hK K
  refine wpQuiet_step (fun K hK => ?_)
  go_simp
  refine ⟨_, fun v hv => rfl, hK _ ?_⟩
  clear hK K
  refine wpQuiet_step (fun K hK => ?_)
  go_simp
  refine ⟨_, fun v hv => rfl, hK _ ?_⟩
  clear hK K
  refine wpQuiet_step (fun K hK => ?_)
  go_simp
  refine ⟨.agg #[.string X1, .string X2], fun v hv => ?_, hK _ ?_⟩
  · simp [c0 v hv, c1 v hv]
  clear hK K
  refine wpQuiet_step (fun K hK => ?_)
  go_simp
  refine ⟨.agg #[.string Y1, .string Y2], fun v hv => ?_, hK _ ?_⟩
  · simp [c2 v hv, c3 v hv]
  clear hK K
  refine wpQuiet_step (fun K hK => ?_)
  go_simp
  refine ⟨.agg #[.string N1, .string N2], fun v hv => ?_, hK _ ?_⟩
  · exact calm_call cT hv (F3 v (cB v hv))
  clear hK K
  refine wpQuiet_step (fun K hK => ?_)
  go_simp
  refine ⟨.agg #[.string D1, .string D2], fun v hv => ?_, hK _ ?_⟩
  · exact calm_call cT hv (F4 v (cB v hv))
  clear hK K
  refine wpQuiet_step (fun K hK => ?_)
  go_simp
  refine ⟨.string SD, fun v hv => ?_, hK _ ?_⟩
  · exact calm_call cT hv (F5 v (cB v hv))
  clear hK K
  refine wpQuiet_step (fun K hK => ?_)
  go_simp
  refine ⟨_, fun v hv => rfl, hK _ ?_⟩
  clear hK K
  refine wpQuiet_step (fun K hK => ?_)
  go_simp
  refine ⟨_, fun v hv => rfl, hK _ ?_⟩
  clear hK K
  refine wpQuiet_step (fun K hK => ?_)
  go_simp
  refine ⟨_, fun v hv => rfl, hK _ ?_⟩
  clear hK K
  refine wpQuiet_step (fun K hK => ?_)
  go_simp
  refine ⟨_, fun v hv => rfl, hK _ ?_⟩
  clear hK K
  refine wpQuiet_step (fun K hK => ?_)
  go_simp
  refine ⟨.agg #[.string X1, .string X2], fun v hv => ?_, hK _ ?_⟩
  · simp [c0 v hv, c1 v hv]
  clear hK K
  refine wpQuiet_step (fun K hK => ?_)
  go_simp
  refine ⟨.agg #[.string Y1, .string Y2], fun v hv => ?_, hK _ ?_⟩
  · simp [c2 v hv, c3 v hv]
  clear hK K
  refine wpQuiet_step (fun K hK => ?_)
  go_simp
  refine ⟨.agg #[.string P1, .string P2], fun v hv => ?_, hK _ ?_⟩
  · exact calm_call cT hv (F6 v (cB v hv))
  clear hK K
  refine wpQuiet_step (fun K hK => ?_)
  go_simp
  refine ⟨.string SP, fun v hv => ?_, hK _ ?_⟩
  · exact calm_call cT hv (F7 v (cB v hv))
  clear hK K
  refine wpQuiet_step (fun K hK => ?_)
  go_simp
  refine ⟨_, fun v hv => rfl, hK _ ?_⟩
  clear hK K
  refine wpQuiet_step (fun K hK => ?_)
  go_simp
  refine ⟨_, fun v hv => rfl, hK _ ?_⟩
  clear hK K
  refine wpQuiet_step (fun K hK => ?_)
  go_simp
  refine ⟨_, fun v hv => rfl, hK _ ?_⟩
  clear hK K
  refine wpQuiet_step (fun K hK => ?_)
  go_simp
  refine ⟨_, fun v hv => rfl, hK _ ?_⟩
  clear hK K
  refine wpQuiet_step (fun K hK => ?_)
  go_simp
  refine ⟨_, fun v hv => rfl, hK _ ?_⟩
  clear hK K
  refine wpQuiet_step (fun K hK => ?_)
  go_simp
  refine ⟨_, fun v hv => rfl, hK _ ?_⟩
  clear hK K
  refine wpQuiet_step (fun K hK => ?_)
  go_simp
  refine ⟨_, fun v hv => rfl, hK _ ?_⟩
  clear hK K
  refine wpQuiet_step (fun K hK => ?_)
  go_simp
  refine ⟨_, fun v hv => rfl, hK _ ?_⟩
  clear hK K
  refine wpQuiet_step (fun K hK => ?_)
  go_simp
  refine ⟨_, fun v hv => rfl, hK _ ?_⟩
  clear hK K
  refine wpQuiet_step (fun K hK => ?_)
  go_simp
  refine ⟨_, fun v hv => rfl, hK _ ?_⟩
  clear hK K
  refine wpQuiet_step (fun K hK => ?_)
  go_simp
  refine ⟨_, fun v hv => rfl, hK _ ?_⟩
  clear hK K
  refine wpQuiet_step (fun K hK => ?_)
  go_simp
  refine ⟨_, fun v hv => rfl, hK _ ?_⟩
  clear hK K
  refine wpQuiet_step (fun K hK => ?_)
  go_simp
  refine ⟨_, fun v hv => rfl, hK _ ?_⟩
  clear hK K
  refine wpQuiet_step (fun K hK => ?_)
  go_simp
  refine ⟨_, fun v hv => rfl, hK _ ?_⟩
  clear hK K
  refine wpQuiet_nil ?_
  intro v1 C1
  have r2 := c2 v1 C1
  have HB := cB v1 C1
  clear c0 c1 c2 c3 cB cT cD C1
  go_wp2_with fail
  refine (F0 _ HB).mono ?_
  rintro e w23 ⟨rfl, h23⟩
  replace HB := bl_trans HB h23
  clear h23
  have HR : Hid _ := HB
  clear HB
  go_wp2
  go_ret
  exact ⟨rfl, HR.out⟩

set_option maxHeartbeats 4000000 in
theorem sums_good (a b X1 X2 Y1 Y2 SS SD SP A1 A2 N1 N2 D1 D2 P1 P2 SQ I1 I2 Q1 Q2 : ByteArray) (aF aZ : Addr) (w : World) (hE : Er w aF aZ) (h0 : ¬ 60 < a.size) (h1 : ¬ 60 < b.size)
    (E1 : ∀ v : World, Below w.heap.size w v → Calls Tryz.prog 16 #[.string a, .string b] v fun e w' => e = .returned (.tuple #[.string SS, .int .i64 0]) ∧ Below v.heap.size v w')
    (E2 : ∀ v : World, Below w.heap.size w v → Calls Tryz.prog 17 #[.string a, .string b] v fun e w' => e = .returned (.tuple #[.string SD, .int .i64 0]) ∧ Below v.heap.size v w')
    (E3 : ∀ v : World, Below w.heap.size w v → Calls Tryz.prog 18 #[.string a, .string b] v fun e w' => e = .returned (.tuple #[.string SP, .int .i64 0]) ∧ Below v.heap.size v w')
    (E4 : ∀ v : World, Below w.heap.size w v → Calls Tryz.prog 19 #[.string a, .string b] v fun e w' => e = .returned (.tuple #[.string SQ, .int .i64 0]) ∧ Below v.heap.size v w')
    (Ra : ∀ v : World, Below w.heap.size w v → Calls Tryz.prog 20 #[.string a] v fun e w' => e = .returned (.tuple #[.agg #[.string X1, .string X2], .bool true]) ∧ Below v.heap.size v w')
    (Rb : ∀ v : World, Below w.heap.size w v → Calls Tryz.prog 20 #[.string b] v fun e w' => e = .returned (.tuple #[.agg #[.string Y1, .string Y2], .bool true]) ∧ Below v.heap.size v w')
    (F1 : ∀ v : World, Below w.heap.size w v → Calls Tryz.prog 22 #[.agg #[.string X1, .string X2], .agg #[.string Y1, .string Y2]] v fun e w' => e = .returned (.agg #[.string A1, .string A2]) ∧ Below v.heap.size v w')
    (F2 : ∀ v : World, Below w.heap.size w v → Calls Tryz.prog 21 #[.agg #[.string A1, .string A2]] v fun e w' => e = .returned (.string SS) ∧ Below v.heap.size v w')
    (F3 : ∀ v : World, Below w.heap.size w v → Calls Tryz.prog 23 #[.agg #[.string Y1, .string Y2]] v fun e w' => e = .returned (.agg #[.string N1, .string N2]) ∧ Below v.heap.size v w')
    (F4 : ∀ v : World, Below w.heap.size w v → Calls Tryz.prog 22 #[.agg #[.string X1, .string X2], .agg #[.string N1, .string N2]] v fun e w' => e = .returned (.agg #[.string D1, .string D2]) ∧ Below v.heap.size v w')
    (F5 : ∀ v : World, Below w.heap.size w v → Calls Tryz.prog 21 #[.agg #[.string D1, .string D2]] v fun e w' => e = .returned (.string SD) ∧ Below v.heap.size v w')
    (F6 : ∀ v : World, Below w.heap.size w v → Calls Tryz.prog 24 #[.agg #[.string X1, .string X2], .agg #[.string Y1, .string Y2]] v fun e w' => e = .returned (.agg #[.string P1, .string P2]) ∧ Below v.heap.size v w')
    (F7 : ∀ v : World, Below w.heap.size w v → Calls Tryz.prog 21 #[.agg #[.string P1, .string P2]] v fun e w' => e = .returned (.string SP) ∧ Below v.heap.size v w')
    (F0 : ∀ v : World, Below w.heap.size w v → Calls Tryz.prog 15 #[] v fun e w' => e = .returned (.bool true) ∧ Below v.heap.size v w') (hy : (Y1.toList == [48]) = false)
    (F8 : ∀ v : World, Below w.heap.size w v → Calls Tryz.prog 25 #[.string Y2, .string Y1] v fun e w' => e = .returned (.agg #[.string I1, .string I2]) ∧ Below v.heap.size v w')
    (F9 : ∀ v : World, Below w.heap.size w v → Calls Tryz.prog 24 #[.agg #[.string X1, .string X2], .agg #[.string I1, .string I2]] v fun e w' => e = .returned (.agg #[.string Q1, .string Q2]) ∧ Below v.heap.size v w')
    (F10 : ∀ v : World, Below w.heap.size w v → Calls Tryz.prog 21 #[.agg #[.string Q1, .string Q2]] v fun e w' => e = .returned (.string SQ) ∧ Below v.heap.size v w') :
    Calls Tryz.prog 3 #[.string a, .string b] w fun e w' => e = .returned (.bool true) ∧ Below w.heap.size w w' := by
  have HE : Hid _ := hE
  clear hE
  have HB := Below.refl w.heap.size w
  go_enter Tryz.func3, Tryz.ntmps3
  go_wp2_with fail
  refine (E1 _ HB).mono ?_
  rintro e w24 ⟨rfl, h24⟩
  replace HB := bl_trans HB h24
  clear h24
  go_wp2_with fail
  refine (E2 _ HB).mono ?_
  rintro e w25 ⟨rfl, h25⟩
  replace HB := bl_trans HB h25
  clear h25
  go_wp2_with fail
  refine (E3 _ HB).mono ?_
  rintro e w26 ⟨rfl, h26⟩
  replace HB := bl_trans HB h26
  clear h26
  go_wp2_with fail
  refine (E4 _ HB).mono ?_
  rintro e w27 ⟨rfl, h27⟩
  replace HB := bl_trans HB h27
  clear h27
  go_wp2_with fail
  refine (Ra _ HB).mono ?_
  rintro e w28 ⟨rfl, h28⟩
  replace HB := bl_trans HB h28
  clear h28
  go_wp2_with fail
  refine (Rb _ (bl_alloc HB _)).mono ?_
  rintro e w29 ⟨rfl, k6⟩
  replace HB := bl_trans (bl_alloc HB _) k6
  have c00 : ∀ v, Below (w29.alloc (.cells #[.string Y1, .string Y2] 27)).heap.size (w29.alloc (.cells #[.string Y1, .string Y2] 27)) v → (∀ i, v.cell? ⟨w28.heap.size, i, none⟩ = #[.string X1, .string X2][i]?) := fun v h => (own1 (w := w28) (bl_trans (bl_alloc k6 _) h)).1
  obtain ⟨C, hC⟩ : ∃ C : World → Prop, C = fun v => Below (w29.alloc (.cells #[.string Y1, .string Y2] 27)).heap.size (w29.alloc (.cells #[.string Y1, .string Y2] 27)) v := ⟨_, rfl⟩
  have c0 : ∀ v, C v → v.cell? ⟨w28.heap.size, 0, none⟩ = some (.string X1) := fun v h => by subst hC; exact c00 v h 0
  have c1 : ∀ v, C v → v.cell? ⟨w28.heap.size, 1, none⟩ = some (.string X2) := fun v h => by subst hC; exact c00 v h 1
  have c2 : ∀ v, C v → v.cell? ⟨w29.heap.size, 0, none⟩ = some (.string Y1) := fun v h => by subst hC; exact (own1 h).1 0
  have c3 : ∀ v, C v → v.cell? ⟨w29.heap.size, 1, none⟩ = some (.string Y2) := fun v h => by subst hC; exact (own1 h).1 1
  have cB : ∀ v, C v → Below w.heap.size w v := fun v h => by subst hC; exact bl_trans (bl_alloc HB _) h
  have cT : ∀ u v, C u → Below u.heap.size u v → C v := fun u v h k => by subst hC; exact h.trans (k.mono h.size)
  have cD : ∀ v, C v → C v.drew := fun v h => by subst hC; exact h.drew
  have cI : C (w29.alloc (.cells #[.string Y1, .string Y2] 27)) := by subst hC; exact Below.refl _ _
  clear hC c00 k6 HB
  go_wp2_with fail
  refine region_calm C (by kernel_rfl) (by kernel_rfl) (cD _ cI) ?_
  clear cI
  refine wpQuiet_step (fun K hK => ?_)
  go_simp
  refine ⟨_, fun v hv => rfl, hK _ ?_⟩
  clear hK K
  refine wpQuiet_step (fun K hK => ?_)
  go_simp
  refine ⟨.agg #[.string X1, .string X2], fun v hv => ?_, hK _ ?_⟩
  · simp [c0 v hv, c1 v hv]
  clear hK K
  refine wpQuiet_step (fun K hK => ?_)
  go_simp
  refine ⟨.agg #[.string Y1, .string Y2], fun v hv => ?_, hK _ ?_⟩
  · simp [c2 v hv, c3 v hv]
  clear hK K
  refine wpQuiet_step (fun K hK => ?_)
  go_simp
  refine ⟨.agg #[.string A1, .string A2], fun v hv => ?_, hK _ ?_⟩
  · exact calm_call cT hv (F1 v (cB v hv))
  clear hK K
  refine wpQuiet_step (fun K hK => ?_)
  go_simp
  refine ⟨.string SS, fun v hv => ?_, hK _ ?_⟩
  · exact calm_call cT hv (F2 v (cB v hv))
  clear hK K
  refine wpQuiet_step (fun K hK => ?_)
  go_simp
  refine ⟨_, fun v hv => rfl, hK _ ?_⟩
  clear hK K
  refine wpQuiet_step (fun K hK => ?_)
  go_simp
  refine ⟨_, fun v hv => rfl, hK _ ?_⟩
  clear hK K
  refine wpQuiet_step (fun K hK => ?_)
  go_simp
  refine ⟨_, fun v hv => rfl, hK _ ?_⟩
  clear hK K
  refine wpQuiet_step (fun K hK => ?_)
  go_simp
  refine ⟨.agg #[.string X1, .string X2], fun v hv => ?_, hK _ ?_⟩
  · simp [c0 v hv, c1 v hv]
  clear hK K
  refine wpQuiet_step (fun K hK => ?_)
  go_simp
  refine ⟨.agg #[.string Y1, .string Y2], fun v hv => ?_, hK _ ?_⟩
  · simp [c2 v hv, c3 v hv]
  clear hK K
  refine wpQuiet_step (fun K hK => ?_)
  go_simp
  refine ⟨.agg #[.string N1, .string N2], fun v hv => ?_, hK _ ?_⟩
  · exact calm_call cT hv (F3 v (cB v hv))
  clear hK K
  refine wpQuiet_step (fun K hK => ?_)
  go_simp
  refine ⟨.agg #[.string D1, .string D2], fun v hv => ?_, hK _ ?_⟩
  · exact calm_call cT hv (F4 v (cB v hv))
  clear hK K
  refine wpQuiet_step (fun K hK => ?_)
  go_simp
  refine ⟨.string SD, fun v hv => ?_, hK _ ?_⟩
  · exact calm_call cT hv (F5 v (cB v hv))
  clear hK K
  refine wpQuiet_step (fun K hK => ?_)
  go_simp
  refine ⟨_, fun v hv => rfl, hK _ ?_⟩
  clear hK K
  refine wpQuiet_step (fun K hK => ?_)
  go_simp
  refine ⟨_, fun v hv => rfl, hK _ ?_⟩
  clear hK K
  refine wpQuiet_step (fun K hK => ?_)
  go_simp
  refine ⟨_, fun v hv => rfl, hK _ ?_⟩
  clear hK K
  refine wpQuiet_step (fun K hK => ?_)
  go_simp
  refine ⟨_, fun v hv => rfl, hK _ ?_⟩
  clear hK K
  refine wpQuiet_step (fun K hK => ?_)
  go_simp
  refine ⟨.agg #[.string X1, .string X2], fun v hv => ?_, hK _ ?_⟩
  · simp [c0 v hv, c1 v hv]
  clear hK K
  refine wpQuiet_step (fun K hK => ?_)
  go_simp
  refine ⟨.agg #[.string Y1, .string Y2], fun v hv => ?_, hK _ ?_⟩
  · simp [c2 v hv, c3 v hv]
  clear hK K
  refine wpQuiet_step (fun K hK => ?_)
  go_simp
  refine ⟨.agg #[.string P1, .string P2], fun v hv => ?_, hK _ ?_⟩
  · exact calm_call cT hv (F6 v (cB v hv))
  clear hK K
  refine wpQuiet_step (fun K hK => ?_)
  go_simp
  refine ⟨.string SP, fun v hv => ?_, hK _ ?_⟩
  · exact calm_call cT hv (F7 v (cB v hv))
  clear hK K
  refine wpQuiet_step (fun K hK => ?_)
  go_simp
  refine ⟨_, fun v hv => rfl, hK _ ?_⟩
  clear hK K
  refine wpQuiet_step (fun K hK => ?_)
  go_simp
  refine ⟨_, fun v hv => rfl, hK _ ?_⟩
  clear hK K
  refine wpQuiet_step (fun K hK => ?_)
  go_simp
  refine ⟨_, fun v hv => rfl, hK _ ?_⟩
  clear hK K
  refine wpQuiet_step (fun K hK => ?_)
  go_simp
  refine ⟨_, fun v hv => rfl, hK _ ?_⟩
  clear hK K
  refine wpQuiet_step (fun K hK => ?_)
  go_simp
  refine ⟨_, fun v hv => rfl, hK _ ?_⟩
  clear hK K
  refine wpQuiet_step (fun K hK => ?_)
  go_simp
  refine ⟨_, fun v hv => rfl, hK _ ?_⟩
  clear hK K
  refine wpQuiet_step (fun K hK => ?_)
  go_simp
  refine ⟨_, fun v hv => rfl, hK _ ?_⟩
  clear hK K
  refine wpQuiet_step (fun K hK => ?_)
  go_simp
  refine ⟨_, fun v hv => rfl, hK _ ?_⟩
  clear hK K
  refine wpQuiet_step (fun K hK => ?_)
  go_simp
  refine ⟨_, fun v hv => rfl, hK _ ?_⟩
  clear hK K
  refine wpQuiet_step (fun K hK => ?_)
  go_simp
  refine ⟨_, fun v hv => rfl, hK _ ?_⟩
  clear hK K
  refine wpQuiet_step (fun K hK => ?_)
  go_simp
  refine ⟨_, fun v hv => rfl, hK _ ?_⟩
  clear hK K
  refine wpQuiet_step (fun K hK => ?_)
  go_simp
  refine ⟨_, fun v hv => rfl, hK _ ?_⟩
  clear hK K
  refine wpQuiet_step (fun K hK => ?_)
  go_simp
  refine ⟨_, fun v hv => rfl, hK _ ?_⟩
  clear hK K
  refine wpQuiet_step (fun K hK => ?_)
  go_simp
  refine ⟨_, fun v hv => rfl, hK _ ?_⟩
  clear hK K
  refine wpQuiet_nil ?_
  intro v1 C1
  have r2 := c2 v1 C1
  go_wp2_with fail
  clear r2
  refine region_calm C (by kernel_rfl) (by kernel_rfl) (cD _ C1) ?_
  clear C1
  refine wpQuiet_step (fun K hK => ?_)
  go_simp
  refine ⟨_, fun v hv => rfl, hK _ ?_⟩
  clear hK K
  refine wpQuiet_step (fun K hK => ?_)
  go_simp
  refine ⟨.agg #[.string X1, .string X2], fun v hv => ?_, hK _ ?_⟩
  · simp [c0 v hv, c1 v hv]
  clear hK K
  refine wpQuiet_step (fun K hK => ?_)
  go_simp
  refine ⟨_, fun v hv => rfl, hK _ ?_⟩
  clear hK K
  refine wpQuiet_step (fun K hK => ?_)
  go_simp
  refine ⟨.string Y2, fun v hv => ?_, hK _ ?_⟩
  · simp [c3 v hv]
  clear hK K
  refine wpQuiet_step (fun K hK => ?_)
  go_simp
  refine ⟨_, fun v hv => rfl, hK _ ?_⟩
  clear hK K
  refine wpQuiet_step (fun K hK => ?_)
  go_simp
  refine ⟨.string Y1, fun v hv => ?_, hK _ ?_⟩
  · simp [c2 v hv]
  clear hK K
  refine wpQuiet_step (fun K hK => ?_)
  go_simp
  refine ⟨.agg #[.string I1, .string I2], fun v hv => ?_, hK _ ?_⟩
  · exact calm_call cT hv (F8 v (cB v hv))
  clear hK K
  refine wpQuiet_step (fun K hK => ?_)
  go_simp
  refine ⟨.agg #[.string Q1, .string Q2], fun v hv => ?_, hK _ ?_⟩
  · exact calm_call cT hv (F9 v (cB v hv))
  clear hK K
  refine wpQuiet_step (fun K hK => ?_)
  go_simp
  refine ⟨.string SQ, fun v hv => ?_, hK _ ?_⟩
  · exact calm_call cT hv (F10 v (cB v hv))
  clear hK K
  refine wpQuiet_step (fun K hK => ?_)
  go_simp
  refine ⟨_, fun v hv => rfl, hK _ ?_⟩
  clear hK K
  refine wpQuiet_step (fun K hK => ?_)
  go_simp
  refine ⟨_, fun v hv => rfl, hK _ ?_⟩
  clear hK K
  refine wpQuiet_step (fun K hK => ?_)
  go_simp
  refine ⟨_, fun v hv => rfl, hK _ ?_⟩
  clear hK K
  refine wpQuiet_step (fun K hK => ?_)
  go_simp
  refine ⟨_, fun v hv => rfl, hK _ ?_⟩
  clear hK K
  refine wpQuiet_step (fun K hK => ?_)
  go_simp
  refine ⟨_, fun v hv => rfl, hK _ ?_⟩
  clear hK K
  refine wpQuiet_step (fun K hK => ?_)
  go_simp
  refine ⟨_, fun v hv => rfl, hK _ ?_⟩
  clear hK K
  refine wpQuiet_step (fun K hK => ?_)
  go_simp
  refine ⟨.bool true, fun v hv => ?_, hK _ ?_⟩
  · exact calm_call cT hv (F0 v (cB v hv))
  clear hK K
  refine wpQuiet_step (fun K hK => ?_)
  go_simp
  refine ⟨_, fun v hv => rfl, hK _ ?_⟩
  clear hK K
  refine wpQuiet_step (fun K hK => ?_)
  go_simp
  refine ⟨_, fun v hv => rfl, hK _ ?_⟩
  clear hK K
  refine wpQuiet_nil ?_
  intro v2 C2
  have HR : Hid _ := cB v2 C2
  clear c0 c1 c2 c3 cB cT cD C2
  go_wp2
  go_ret
  exact ⟨rfl, HR.out⟩

theorem rtextC (r : Rat) (v : World) (h : Bd r 10000) : Calls Tryz.prog 21 #[fr r] v fun e w' => e = .returned (.string (R r)) ∧ Below v.heap.size v w' :=
  (rtext_R r v h).mono fun _ _ ⟨he, hb⟩ => ⟨he, by rw [hb]; exact bl_alloc (Below.refl _ v) _⟩
theorem sums_any (a b : ByteArray) (aF aZ : Addr) (w : World) (hE : Er w aF aZ) :
    Calls Tryz.prog 3 #[.string a, .string b] w fun e w' => e = .returned (.bool true) ∧ Below w.heap.size w w' := by
  by_cases h0 : 60 < a.size
  · exact sums_long0 a b aF aZ w hE h0
  by_cases h1 : 60 < b.size
  · exact sums_long1 a b aF aZ w hE h0 h1
  have no := fun (h : (ra a && ra b) = false) =>
    (⟨fun v k => AddR_no a b aF aZ v (hE.below k) (by omega) (by omega) h, fun v k => SubR_no a b aF aZ v (hE.below k) (by omega) (by omega) h, fun v k => MulR_no a b aF aZ v (hE.below k) (by omega) (by omega) h, fun v k => QuoR_no a b aF aZ v (hE.below k) (by omega) (by omega) h⟩ :
      (∀ v : World, Below w.heap.size w v → Calls Tryz.prog 16 #[.string a, .string b] v fun e w' => e = .returned (.tuple #[.string ⟨#[]⟩, .int .i64 2]) ∧ Below v.heap.size v w') ∧ (∀ v : World, Below w.heap.size w v → Calls Tryz.prog 17 #[.string a, .string b] v fun e w' => e = .returned (.tuple #[.string ⟨#[]⟩, .int .i64 2]) ∧ Below v.heap.size v w') ∧ (∀ v : World, Below w.heap.size w v → Calls Tryz.prog 18 #[.string a, .string b] v fun e w' => e = .returned (.tuple #[.string ⟨#[]⟩, .int .i64 2]) ∧ Below v.heap.size v w') ∧ (∀ v : World, Below w.heap.size w v → Calls Tryz.prog 19 #[.string a, .string b] v fun e w' => e = .returned (.tuple #[.string ⟨#[]⟩, .int .i64 2]) ∧ Below v.heap.size v w'))
  cases ha : ra a with
  | false =>
    obtain ⟨n1, n2, n3, n4⟩ := no (by rw [ha]; rfl)
    obtain ⟨X1, X2, D⟩ := Read_one a (by omega) ha
    cases hb : ra b with
    | false =>
      obtain ⟨Y1, Y2, D'⟩ := Read_one b (by omega) hb
      exact sums_badA a b X1 X2 Y1 Y2 false aF aZ w hE h0 h1 n1 n2 n3 n4 (fun v _ => D v) (fun v _ => D' v)
    | true =>
      obtain ⟨y, rfl⟩ := R_of hb
      exact sums_badA a _ X1 X2 _ _ true aF aZ w hE h0 h1 n1 n2 n3 n4 (fun v _ => D v) (fun v _ => Read_R y v (by omega))
  | true =>
    cases hb : ra b with
    | false =>
      obtain ⟨n1, n2, n3, n4⟩ := no (by rw [hb, Bool.and_false])
      obtain ⟨x, rfl⟩ := R_of ha
      obtain ⟨Y1, Y2, D'⟩ := Read_one b (by omega) hb
      exact sums_badB _ b _ _ Y1 Y2 aF aZ w hE h0 h1 n1 n2 n3 n4 (fun v _ => Read_R x v (by omega)) (fun v _ => D' v)
    | true =>
      obtain ⟨x, rfl⟩ := R_of ha
      obtain ⟨y, rfl⟩ := R_of hb
      have bx : Bd x 60 := Bd.of_size (by omega)
      have by1 : Bd y 60 := Bd.of_size (by omega)
      have E1 := fun v (_ : Below w.heap.size w v) => Add_R x y v (by omega) (by omega)
      have E2 := fun v (_ : Below w.heap.size w v) => Sub_R x y v (by omega) (by omega)
      rw [Rat.sub_eq_add_neg] at E2
      have E3 := fun v (_ : Below w.heap.size w v) => Mul_R x y v (by omega) (by omega)
      have Ra := fun v (_ : Below w.heap.size w v) => Read_R x v (by omega)
      have Rb := fun v (_ : Below w.heap.size w v) => Read_R y v (by omega)
      have F1 := fun v (_ : Below w.heap.size w v) => radd_R x y 60 60 v bx by1 (by omega)
      have F2 := fun v (_ : Below w.heap.size w v) => rtextC (x + y) v ((bx.add by1).mono (by omega))
      have F3 := fun v (_ : Below w.heap.size w v) => rneg_R y v (by1.mono (by omega))
      have F4 := fun v (_ : Below w.heap.size w v) => radd_R x (-y) 60 60 v bx by1.neg (by omega)
      have F5 := fun v (_ : Below w.heap.size w v) => rtextC (x + -y) v ((bx.add by1.neg).mono (by omega))
      have F6 := fun v (_ : Below w.heap.size w v) => rmul_R x y 60 60 v bx by1 (by omega)
      have F7 := fun v (_ : Below w.heap.size w v) => rtextC (x * y) v ((bx.mul by1).mono (by omega))
      have F0 := fun v (k : Below w.heap.size w v) => awake_any aF aZ v (hE.below k)
      by_cases y0 : y = 0
      · have E4 := fun v k => Quo_zero x aF aZ v (hE.below k) (by omega)
        rw [← y0] at E4
        exact sums_zero _ _ _ _ _ _ _ _ _ _ _ _ _ _ _ _ _ aF aZ w hE h0 h1 E1 E2 E3 E4 Ra Rb F1 F2 F3 F4 F5 F6 F7 F0 (by rw [y0]; rw [show (0 : Rat).num = 0 from rfl, W0, toList_data]; rfl)
      · have hn : y.num ≠ 0 := fun h => y0 (num_zero.1 h)
        have E4 := fun v (_ : Below w.heap.size w v) => Quo_R x y v (by omega) (by omega) y0
        have F8 := fun v (_ : Below w.heap.size w v) => low_W (y.den : Int) y.num v (by simp only [Int.natAbs_natCast]; have := by1.2; omega) (by have := by1.1; omega) hn
        have bi : Bd (by' (y.den : Int) y.num) 60 := Bd.by' hn (by simp only [Int.natAbs_natCast]; exact by1.2) by1.1
        have F9 := fun v (_ : Below w.heap.size w v) => rmul_R x (by' (y.den : Int) y.num) 60 60 v bx bi (by omega)
        have F10 := fun v (_ : Below w.heap.size w v) => rtextC (x * by' (y.den : Int) y.num) v ((bx.mul bi).mono (by omega))
        have eq : x * by' (y.den : Int) y.num = x / y := by
          have p := R_parts y
          have d := den_ne y
          have m := num_ne y0
          unfold by'
          rw [show (((y.den : Int) : Rat)) = (y.den : Rat) from rfl]
          generalize (y.num : Rat) = u at *
          generalize (y.den : Rat) = t at *
          grind
        rw [eq] at F9 F10
        rw [W_nat] at F8
        exact sums_good _ _ _ _ _ _ _ _ _ _ _ _ _ _ _ _ _ _ _ _ _ _ aF aZ w hE h0 h1 E1 E2 E3 E4 Ra Rb F1 F2 F3 F4 F5 F6 F7 F0 (notW0 hn) F8 F9 F10
end
end Go.Proofs.YtpmnfgbbkmodpaaGreatDoor
namespace Go.Proofs.YtpmnfgbbkmodpaaGreatDoor.ratSums
section
open Go.ChangeShapes Go.WideShapes Go.ChangeAt Go.RowKit
open Go.ChangeMaps (open_string shut_string)
set_option linter.unusedVariables false

theorem own : ownKnob Tryz.prog.godebug = none := by kernel_rfl

set_option maxRecDepth 100000 in
theorem lifted (os : Os) (started : os.Started) (H : Type) (enc : TypeId × Value → H) :
    ReturnsInHanded {} Tryz.checked os 3 .any (fun w args => (Rows.ratSumsSpec.pre enc Tryz.prog Tryz.f3 [] false w args ∧ laidMetH Tryz.prog listed w) ∧ sizedMet enc Tryz.prog Tryz.f3 (OpenSpec.ofChange Rows.ratSumsSpec) false w args)
      (Rows.ratSumsSpec.post enc Tryz.prog Tryz.f3 false true false false) := by
  refine returnsInHanded_of_change_and (C := Tryz.checked) (X := fun w _ => laidMetH Tryz.prog listed w) (fun _ _ _ hh h => h.of_heap hh) own started (by kernel_rfl) Tryz.func3
    (ChangeSpec.witness_shaped (enc := enc) (C := Tryz.checked) (os := os) (X := fun w _ => laidMetH Tryz.prog listed w) false (World.doorLaid Tryz.prog 400 os) #[.string ByteArray.empty, .string ByteArray.empty] 8 rfl (door_shaped os _) (by kernel_rfl) (by kernel_rfl) (by kernel_rfl) (door_met os _)) ?_
  intro W base args ds gs before hval0 hW _ _ hL _
  have hval : ∀ (j : Nat) t v, Tryz.f3.params[j]? = some t → args[j]? = some v → Value.okWide Tryz.prog W .any base t v := hval0
  have hW' := hW
  obtain ⟨p, q, hA0, hV, rfl, hfz, hnd⟩ := hW
  have hA : DataW.TrodAll enc Tryz.prog W 0 (fun _ => true) true Tryz.f3.params.toList args.toList ds p := hA0
  rw [Tryz.params3] at hA hval
  obtain ⟨v0, vs0, d0, ds0, p0, q0, hargs, rfl, rfl, h0, r0⟩ := trodAll_cons hA
  obtain ⟨v1, vs1, d1, ds1, p1, q1, rfl, rfl, rfl, h1, r1⟩ := trodAll_cons r0
  obtain ⟨rfl, rfl, rfl⟩ := trodAll_nil r1
  obtain rfl : args = #[v0, v1] := by cases args; simp_all
  obtain ⟨rfl, rfl⟩ := trodVars_none hV
  obtain ⟨a0, rfl, rfl, rfl, w0⟩ := open_string Tryz.underlying9 (hval 0 9 v0 rfl rfl) h0
  obtain ⟨a1, rfl, rfl, rfl, w1⟩ := open_string Tryz.underlying9 (hval 1 9 v1 rfl rfl) h1
  obtain ⟨aF, aZ, hE⟩ := er_of hL
  clear hA0 hval0
  simp only [List.append_nil] at hW'
  refine (Go.Proofs.YtpmnfgbbkmodpaaGreatDoor.sums_any a0 a1 aF aZ W hE).mono fun e W' ⟨he, bel⟩ => ?_
  subst he
  exact ⟨_, rfl, _, _, _, [], [], [], hW', trodAll_mk1 (shut_bool Tryz.underlying4 _), (trodAll_cons_mk (shut_string Tryz.underlying9 w0) (trodAll_cons_mk (shut_string Tryz.underlying9 w1) trodAll_mk0)), rfl, bel.frame _, fun h => by cases h⟩

theorem row : Rows.RatSumsSaid :=
  OpenClaim.holds_of_wide 3 Tryz.f3 rfl rfl rfl rfl rfl rfl rfl ⟨rfl, rfl, rfl, rfl, rfl⟩ rfl rfl rfl rfl rfl (by kernel_rfl) Tryz.func3 (by kernel_rfl)
    (of_decide_eq_true (by kernel_rfl)) (by unfold Func.isWrapper; first | (rw [if_pos (by decide +kernel)]; kernel_rfl) | (rw [if_neg (by decide +kernel)]; exact ⟨rfl, rfl⟩))
    (fun os started H enc _ => lifted os started H enc)

theorem proved : Rows.RatSumsCardSaid :=
  Claim7.holds_tied_plain_at .later [] [.handle, .sentinel, .sentinel] true (true, "1a3ddbcb9d29070d83cd072e95934012661a20515207d1b69a103a806a1e4cc8") true
    row (fun _ h => by cases h) (by kernel_rfl) (fun _ h => by cases h) ratSums_row_tie rfl ⟨rfl, rfl⟩ (by kernel_rfl) rfl
    (fun f fn hf hfn => by
      obtain rfl : f = 3 := Option.some.inj ((show Tryz.prog.funcNamed "tapewright/tapewrightlaw03.RatSums" = some 3 by kernel_rfl).symm.trans hf) |>.symm
      obtain rfl : fn = Tryz.f3 := (Option.some.inj (Tryz.func3.symm.trans hfn)).symm
      exact ⟨by kernel_rfl, fun j t ht => by
        rw [Tryz.params3] at ht
        have hm : t ∈ ([9, 9] : List Nat) := by
          have := List.mem_of_getElem? (l := [9, 9]) (i := j) (a := t) (by simpa using ht)
          exact this
        simp only [List.mem_cons, List.not_mem_nil, or_false] at hm
        rcases hm with rfl | rfl
        · exact stand9
        · exact stand9⟩)
    (by kernel_rfl)
#print axioms proved
end
end Go.Proofs.YtpmnfgbbkmodpaaGreatDoor.ratSums
