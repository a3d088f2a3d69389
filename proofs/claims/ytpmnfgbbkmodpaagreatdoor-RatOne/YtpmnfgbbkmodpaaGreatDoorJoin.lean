/-
  FRACTIONS, JOINED: what sum, difference, product and compare of package rat give. Conditions: sizes.
-/
import Derived.Test.YtpmnfgbbkmodpaaGreatDoorFrac
import Derived.Test.YtpmnfgbbkmodpaaGreatDoorCalm
namespace Go.Proofs.YtpmnfgbbkmodpaaGreatDoor
set_option maxRecDepth 100000
open Go.RowKit Nm
set_option linter.unusedVariables false

theorem calm_call {P : Program} {C : World → Prop} {f : FuncId} {args : Array Value} {v : World} {x : Value} (cT : ∀ u v, C u → Below u.heap.size u v → C v) (hv : C v)
    (h : Calls P f args v fun e w' => e = .returned x ∧ Below v.heap.size v w') : Calls P f args v fun e w'' => e = .returned x ∧ C w'' :=
  h.mono fun _ _ ⟨he, hb⟩ => ⟨he, cT _ _ hv hb⟩
theorem calm_same {P : Program} {f : FuncId} {args : Array Value} {v : World} {x : Value}
    (h : Calls P f args v fun e w' => e = .returned x ∧ w' = v) : Calls P f args v fun e w' => e = .returned x ∧ Below v.heap.size v w' :=
  h.mono fun _ _ ⟨he, hb⟩ => ⟨he, by subst hb; exact Below.refl _ _⟩
theorem gcd_WW (a b : Nat) (w : World) (ha : tl a ≤ 10000) (hb : tl b ≤ 10000) :
    Calls Tryz.prog 60 #[.string (W (a : Int)), .string (W (b : Int))] w fun e w' => e = .returned (.string (S (Nat.gcd a b))) ∧ Below w.heap.size w w' := by
  rw [W_nat, W_nat]; exact gcd_S a b w ha hb
theorem gcd_SW (a b : Nat) (w : World) (ha : tl a ≤ 10000) (hb : tl b ≤ 10000) :
    Calls Tryz.prog 60 #[.string (S a), .string (W (b : Int))] w fun e w' => e = .returned (.string (S (Nat.gcd a b))) ∧ Below w.heap.size w w' := by
  rw [W_nat]; exact gcd_S a b w ha hb
theorem sizeW (z : Int) (w : World) (hz : tl z.natAbs ≤ 50000) : Calls Tryz.prog 64 #[.string (W z)] w fun e w' => e = .returned (.string (S z.natAbs)) ∧ w' = w := by
  have := size_any (W z) w (by have := W_size z; omega)
  rw [sz_W] at this; exact this
theorem shortN (n g : Nat) (w : World) (hn : tl n ≤ 10000) (hg : tl g ≤ 10000) (h0 : g ≠ 0) (hd : g ∣ n) :
    Calls Tryz.prog 61 #[.string (W (n : Int)), .string (S g)] w fun e w' => e = .returned (.string (W ((n / g : Nat) : Int))) ∧ Below w.heap.size w w' :=
  short_W (n : Int) g w hn hg h0 hd

set_option maxHeartbeats 4000000 in
theorem compare_raw (p q : Int) (r t : Nat) (w : World) (hp : tl p.natAbs ≤ 2000) (hq : tl q.natAbs ≤ 2000) (hr : tl r ≤ 2000) (ht : tl t ≤ 2000) :
    Calls Tryz.prog 57 #[.agg #[.string (W p), .string (W (r : Int))], .agg #[.string (W q), .string (W (t : Int))]] w fun e w' => e = .returned (.int .i64 (sg (p * t) (q * r))) ∧ Below w.heap.size w w' := by
  have h1 : tl (p * t).natAbs ≤ 5000 := by rw [Int.natAbs_mul]; have := tl_mul p.natAbs t; simp only [Int.natAbs_natCast]; omega
  have h2 : tl (q * r).natAbs ≤ 5000 := by rw [Int.natAbs_mul]; have := tl_mul q.natAbs r; simp only [Int.natAbs_natCast]; omega
  have h3 : tl ((t : Int)).natAbs ≤ 5000 := by simp only [Int.natAbs_natCast]; omega
  have h4 : tl ((r : Int)).natAbs ≤ 5000 := by simp only [Int.natAbs_natCast]; omega
  have h5 : tl p.natAbs ≤ 5000 := by omega
  have h6 : tl q.natAbs ≤ 5000 := by omega
  generalize (r : Int) = R at *
  generalize (t : Int) = T at *
  obtain ⟨C, hC⟩ : ∃ C : World → Prop, C = fun v => Below ((w.alloc (.cells #[.string (W p), .string (W R)] 52)).alloc (.cells #[.string (W q), .string (W T)] 52)).heap.size ((w.alloc (.cells #[.string (W p), .string (W R)] 52)).alloc (.cells #[.string (W q), .string (W T)] 52)) v := ⟨_, rfl⟩
  have c0 : ∀ v, C v → v.cell? ⟨w.heap.size, 0, none⟩ = some (.string (W p)) := fun v h => by subst hC; exact (own2 h).1 0
  have c1 : ∀ v, C v → v.cell? ⟨w.heap.size, 1, none⟩ = some (.string (W R)) := fun v h => by subst hC; exact (own2 h).1 1
  have c2 : ∀ v, C v → v.cell? ⟨w.heap.size + 1, 0, none⟩ = some (.string (W q)) := fun v h => by subst hC; exact (own2 h).2.1 0
  have c3 : ∀ v, C v → v.cell? ⟨w.heap.size + 1, 1, none⟩ = some (.string (W T)) := fun v h => by subst hC; exact (own2 h).2.1 1
  have cB : ∀ v, C v → Below w.heap.size w v := fun v h => by subst hC; exact (own2 h).2.2.2.2
  have cT : ∀ u v, C u → Below u.heap.size u v → C v := fun u v h k => by subst hC; exact h.trans (k.mono h.size)
  have cD : ∀ v, C v → C v.drew := fun v h => by subst hC; exact h.drew
  have cI : C ((w.alloc (.cells #[.string (W p), .string (W R)] 52)).alloc (.cells #[.string (W q), .string (W T)] 52)) := by subst hC; exact Below.refl _ _
  clear hC
  go_enter Tryz.func57, Tryz.ntmps57
  go_wp2_with fail
  refine region_calm C (by kernel_rfl) (by kernel_rfl) (cD _ cI) ?_
  clear cI
  refine wpQuiet_step (fun K hK => ?_)
  go_simp
  refine ⟨_, fun v hv => rfl, hK _ ?_⟩
  clear hK K
  refine wpQuiet_step (fun K hK => ?_)
  go_simp
  refine ⟨.string (W p), fun v hv => ?_, hK _ ?_⟩
  · simp [c0 v hv]
  clear hK K
  refine wpQuiet_step (fun K hK => ?_)
  go_simp
  refine ⟨_, fun v hv => rfl, hK _ ?_⟩
  clear hK K
  refine wpQuiet_step (fun K hK => ?_)
  go_simp
  refine ⟨.string (W T), fun v hv => ?_, hK _ ?_⟩
  · simp [c3 v hv]
  clear hK K
  refine wpQuiet_step (fun K hK => ?_)
  go_simp
  refine ⟨.string (W (p * T)), fun v hv => ?_, hK _ ?_⟩
  · exact calm_call cT hv (mul_W p T v h5 h3)
  clear hK K
  refine wpQuiet_step (fun K hK => ?_)
  go_simp
  refine ⟨_, fun v hv => rfl, hK _ ?_⟩
  clear hK K
  refine wpQuiet_step (fun K hK => ?_)
  go_simp
  refine ⟨.string (W q), fun v hv => ?_, hK _ ?_⟩
  · simp [c2 v hv]
  clear hK K
  refine wpQuiet_step (fun K hK => ?_)
  go_simp
  refine ⟨_, fun v hv => rfl, hK _ ?_⟩
  clear hK K
  refine wpQuiet_step (fun K hK => ?_)
  go_simp
  refine ⟨.string (W R), fun v hv => ?_, hK _ ?_⟩
  · simp [c1 v hv]
  clear hK K
  refine wpQuiet_step (fun K hK => ?_)
  go_simp
  refine ⟨.string (W (q * R)), fun v hv => ?_, hK _ ?_⟩
  · exact calm_call cT hv (mul_W q R v h6 h4)
  clear hK K
  refine wpQuiet_step (fun K hK => ?_)
  go_simp
  refine ⟨.tuple #[.int .i64 (sg (p * T) (q * R)), .int .i64 0], fun v hv => ?_, hK _ ?_⟩
  · exact calm_call cT hv (Cmpw_W (p * T) (q * R) v h1 h2)
  clear hK K
  refine wpQuiet_step (fun K hK => ?_)
  go_simp
  refine ⟨_, fun v hv => rfl, hK _ ?_⟩
  clear hK K
  refine wpQuiet_step (fun K hK => ?_)
  go_simp
  refine ⟨_, fun v hv => rfl, hK _ ?_⟩
  clear hK K
  refine wpQuiet_step (fun K hK => ?_)
  go_simp
  refine ⟨_, fun v hv => rfl, hK _ ?_⟩
  clear hK K
  refine wpQuiet_step (fun K hK => ?_)
  go_simp
  refine ⟨_, fun v hv => rfl, hK _ ?_⟩
  clear hK K
  refine wpQuiet_step (fun K hK => ?_)
  go_simp
  refine ⟨_, fun v hv => rfl, hK _ ?_⟩
  clear hK K
  refine wpQuiet_nil ?_
  intro v hv
  have HB : Hid _ := cB v hv
  clear c0 c1 c2 c3 cB cT cD hv
  go_wp2
  go_ret
  exact ⟨rfl, HB.out⟩

set_option maxHeartbeats 8000000 in
theorem sum_raw (p q : Int) (r t g k : Nat) (m : Int) (w : World) (hp : tl p.natAbs ≤ 2000) (hq : tl q.natAbs ≤ 2000) (hr : tl r ≤ 2000) (ht : tl t ≤ 2000) (hr0 : r ≠ 0) (ht0 : t ≠ 0)
    (hg : g = r.gcd t) (hm : m = p * (t / g : Nat) + q * (r / g : Nat)) (hk : k = m.natAbs.gcd g) :
    Calls Tryz.prog 38 #[.agg #[.string (W p), .string (W (r : Int))], .agg #[.string (W q), .string (W (t : Int))]] w fun e w' => e = .returned (.agg #[.string (W (m / (k : Int))), .string (W (((r / g : Nat) : Int) * ((t / k : Nat) : Int)))]) ∧ Below w.heap.size w w' := by
  have g0 : g ≠ 0 := by rw [hg]; exact Nat.ne_of_gt (Nat.gcd_pos_of_pos_left _ (Nat.pos_of_ne_zero hr0))
  have k0 : k ≠ 0 := by rw [hk]; exact Nat.ne_of_gt (Nat.gcd_pos_of_pos_right _ (Nat.pos_of_ne_zero g0))
  have gr : g ∣ r := by rw [hg]; exact Nat.gcd_dvd_left _ _
  have gt : g ∣ t := by rw [hg]; exact Nat.gcd_dvd_right _ _
  have kg : k ∣ g := by rw [hk]; exact Nat.gcd_dvd_right _ _
  have km : k ∣ m.natAbs := by rw [hk]; exact Nat.gcd_dvd_left _ _
  have kt : k ∣ t := Nat.dvd_trans kg gt
  have tg : tl g ≤ 2000 := Nat.le_trans (tl_mono (Nat.le_of_dvd (Nat.pos_of_ne_zero hr0) gr)) hr
  have tk : tl k ≤ 2000 := Nat.le_trans (tl_mono (Nat.le_of_dvd (Nat.pos_of_ne_zero g0) kg)) tg
  have t1 : tl (r / g) ≤ 2000 := Nat.le_trans (tl_mono (Nat.div_le_self _ _)) hr
  have t2 : tl (t / g) ≤ 2000 := Nat.le_trans (tl_mono (Nat.div_le_self _ _)) ht
  have t3 : tl (t / k) ≤ 2000 := Nat.le_trans (tl_mono (Nat.div_le_self _ _)) ht
  have n1 : tl (p * (t / g : Nat)).natAbs ≤ 4000 := by rw [Int.natAbs_mul]; have := tl_mul p.natAbs (t / g); simp only [Int.natAbs_natCast]; omega
  have n2 : tl (q * (r / g : Nat)).natAbs ≤ 4000 := by rw [Int.natAbs_mul]; have := tl_mul q.natAbs (r / g); simp only [Int.natAbs_natCast]; omega
  have n3 : tl m.natAbs ≤ 8000 := by
    rw [hm]; have := tl_mono (Int.natAbs_add_le (p * (t / g : Nat)) (q * (r / g : Nat)))
    have := tl_add (p * (t / g : Nat)).natAbs (q * (r / g : Nat)).natAbs
    omega
  have E1 : ∀ v : World, Calls Tryz.prog 60 #[.string (W (r : Int)), .string (W (t : Int))] v fun e w' => e = .returned (.string (S g)) ∧ Below v.heap.size v w' := fun v => by rw [hg]; exact gcd_WW r t v (by omega) (by omega)
  have E2 : ∀ v : World, Calls Tryz.prog 61 #[.string (W (r : Int)), .string (S g)] v fun e w' => e = .returned (.string (W ((r / g : Nat) : Int))) ∧ Below v.heap.size v w' := fun v => shortN r g v (by omega) (by omega) g0 gr
  have E3 : ∀ v : World, Calls Tryz.prog 61 #[.string (W (t : Int)), .string (S g)] v fun e w' => e = .returned (.string (W ((t / g : Nat) : Int))) ∧ Below v.heap.size v w' := fun v => shortN t g v (by omega) (by omega) g0 gt
  have E4 : ∀ v : World, Calls Tryz.prog 63 #[.string (W p), .string (W ((t / g : Nat) : Int))] v fun e w' => e = .returned (.string (W (p * (t / g : Nat)))) ∧ Below v.heap.size v w' := fun v => mul_W _ _ v (by omega) (by simp only [Int.natAbs_natCast]; omega)
  have E5 : ∀ v : World, Calls Tryz.prog 63 #[.string (W q), .string (W ((r / g : Nat) : Int))] v fun e w' => e = .returned (.string (W (q * (r / g : Nat)))) ∧ Below v.heap.size v w' := fun v => mul_W _ _ v (by omega) (by simp only [Int.natAbs_natCast]; omega)
  have E6 : ∀ v : World, Calls Tryz.prog 62 #[.string (W (p * (t / g : Nat))), .string (W (q * (r / g : Nat)))] v fun e w' => e = .returned (.string (W m)) ∧ Below v.heap.size v w' := fun v => by rw [hm]; exact add_W _ _ v (by omega) (by omega)
  have E7 : ∀ v : World, Calls Tryz.prog 64 #[.string (W m)] v fun e w' => e = .returned (.string (S m.natAbs)) ∧ w' = v := fun v => sizeW m v (by omega)
  have E8 : ∀ v : World, Calls Tryz.prog 60 #[.string (S m.natAbs), .string (S g)] v fun e w' => e = .returned (.string (S k)) ∧ Below v.heap.size v w' := fun v => by rw [hk]; exact gcd_S _ _ v (by omega) (by omega)
  have E9 : ∀ v : World, Calls Tryz.prog 61 #[.string (W m), .string (S k)] v fun e w' => e = .returned (.string (W (m / (k : Int)))) ∧ Below v.heap.size v w' := fun v => short_W m k v (by omega) (by omega) k0 km
  have E10 : ∀ v : World, Calls Tryz.prog 61 #[.string (W (t : Int)), .string (S k)] v fun e w' => e = .returned (.string (W ((t / k : Nat) : Int))) ∧ Below v.heap.size v w' := fun v => shortN t k v (by omega) (by omega) k0 kt
  have E11 : ∀ v : World, Calls Tryz.prog 63 #[.string (W ((r / g : Nat) : Int)), .string (W ((t / k : Nat) : Int))] v fun e w' => e = .returned (.string (W (((r / g : Nat) : Int) * ((t / k : Nat) : Int)))) ∧ Below v.heap.size v w' := fun v => mul_W _ _ v (by simp only [Int.natAbs_natCast]; omega) (by simp only [Int.natAbs_natCast]; omega)
  clear hp hq hr ht hr0 ht0 hg hm hk g0 k0 gr gt kg km kt tg tk t1 t2 t3 n1 n2 n3
  generalize (((r / g : Nat) : Int) * ((t / k : Nat) : Int)) = D at *
  generalize (m / (k : Int)) = M at *
  generalize ((t / k : Nat) : Int) = tk at *
  generalize (p * ((t / g : Nat) : Int)) = A at *
  generalize (q * ((r / g : Nat) : Int)) = B at *
  generalize ((t / g : Nat) : Int) = tg at *
  generalize ((r / g : Nat) : Int) = rg at *
  generalize m.natAbs = mm at *
  generalize (r : Int) = R at *
  generalize (t : Int) = T at *
  obtain ⟨C, hC⟩ : ∃ C : World → Prop, C = fun v => Below (((w.alloc (.cells #[.string (W p), .string (W R)] 52)).alloc (.cells #[.string (W q), .string (W T)] 52)).alloc (.cells #[.string ⟨#[]⟩, .string ⟨#[]⟩] 52)).heap.size (((w.alloc (.cells #[.string (W p), .string (W R)] 52)).alloc (.cells #[.string (W q), .string (W T)] 52)).alloc (.cells #[.string ⟨#[]⟩, .string ⟨#[]⟩] 52)) v := ⟨_, rfl⟩
  have c0 : ∀ v, C v → v.cell? ⟨w.heap.size, 0, none⟩ = some (.string (W p)) := fun v h => by subst hC; exact (own3 h).1 0
  have c1 : ∀ v, C v → v.cell? ⟨w.heap.size, 1, none⟩ = some (.string (W R)) := fun v h => by subst hC; exact (own3 h).1 1
  have c2 : ∀ v, C v → v.cell? ⟨w.heap.size + 1, 0, none⟩ = some (.string (W q)) := fun v h => by subst hC; exact (own3 h).2.1 0
  have c3 : ∀ v, C v → v.cell? ⟨w.heap.size + 1, 1, none⟩ = some (.string (W T)) := fun v h => by subst hC; exact (own3 h).2.1 1
  have c4 : ∀ v, C v → v.cell? ⟨w.heap.size + 1 + 1, 0, none⟩ = some (.string ⟨#[]⟩) := fun v h => by subst hC; exact (own3 h).2.2.1 0
  have fc4 : ∀ v, C v → v.frozen? ⟨w.heap.size + 1 + 1, 0, none⟩ = false := fun v h => by subst hC; exact (own3 h).2.2.2.1 0
  have c5 : ∀ v, C v → v.cell? ⟨w.heap.size + 1 + 1, 1, none⟩ = some (.string ⟨#[]⟩) := fun v h => by subst hC; exact (own3 h).2.2.1 1
  have fc5 : ∀ v, C v → v.frozen? ⟨w.heap.size + 1 + 1, 1, none⟩ = false := fun v h => by subst hC; exact (own3 h).2.2.2.1 1
  have cB : ∀ v, C v → Below w.heap.size w v := fun v h => by subst hC; exact (own3 h).2.2.2.2
  have cT : ∀ u v, C u → Below u.heap.size u v → C v := fun u v h k => by subst hC; exact h.trans (k.mono h.size)
  have cD : ∀ v, C v → C v.drew := fun v h => by subst hC; exact h.drew
  have cI : C (((w.alloc (.cells #[.string (W p), .string (W R)] 52)).alloc (.cells #[.string (W q), .string (W T)] 52)).alloc (.cells #[.string ⟨#[]⟩, .string ⟨#[]⟩] 52)) := by subst hC; exact Below.refl _ _
  clear hC
  go_enter Tryz.func38, Tryz.ntmps38
  go_wp2_with fail
  refine (calm_call cT cI (E1 _)).mono ?_
  rintro e w1 ⟨rfl, C1⟩
  have k1 := c1 w1 C1
  go_wp2_with fail
  refine (calm_call cT C1 (E2 _)).mono ?_
  rintro e w2 ⟨rfl, C2⟩
  clear k1 C1
  go_wp2_with fail
  refine region_calm C (by kernel_rfl) (by kernel_rfl) (cD _ C2) ?_
  clear C2
  refine wpQuiet_step (fun K hK => ?_)
  go_simp
  refine ⟨_, fun v hv => rfl, hK _ ?_⟩
  clear hK K
  refine wpQuiet_step (fun K hK => ?_)
  go_simp
  refine ⟨.string (W p), fun v hv => ?_, hK _ ?_⟩
  · simp [c0 v hv]
  clear hK K
  refine wpQuiet_step (fun K hK => ?_)
  go_simp
  refine ⟨_, fun v hv => rfl, hK _ ?_⟩
  clear hK K
  refine wpQuiet_step (fun K hK => ?_)
  go_simp
  refine ⟨.string (W T), fun v hv => ?_, hK _ ?_⟩
  · simp [c3 v hv]
  clear hK K
  refine wpQuiet_step (fun K hK => ?_)
  go_simp
  refine ⟨_, fun v hv => rfl, hK _ ?_⟩
  clear hK K
  refine wpQuiet_step (fun K hK => ?_)
  go_simp
  refine ⟨.string (W tg), fun v hv => ?_, hK _ ?_⟩
  · exact calm_call cT hv (E3 v)
  clear hK K
  refine wpQuiet_step (fun K hK => ?_)
  go_simp
  refine ⟨.string (W A), fun v hv => ?_, hK _ ?_⟩
  · exact calm_call cT hv (E4 v)
  clear hK K
  refine wpQuiet_step (fun K hK => ?_)
  go_simp
  refine ⟨_, fun v hv => rfl, hK _ ?_⟩
  clear hK K
  refine wpQuiet_step (fun K hK => ?_)
  go_simp
  refine ⟨.string (W q), fun v hv => ?_, hK _ ?_⟩
  · simp [c2 v hv]
  clear hK K
  refine wpQuiet_step (fun K hK => ?_)
  go_simp
  refine ⟨_, fun v hv => rfl, hK _ ?_⟩
  clear hK K
  refine wpQuiet_step (fun K hK => ?_)
  go_simp
  refine ⟨.string (W B), fun v hv => ?_, hK _ ?_⟩
  · exact calm_call cT hv (E5 v)
  clear hK K
  refine wpQuiet_step (fun K hK => ?_)
  go_simp
  refine ⟨.string (W m), fun v hv => ?_, hK _ ?_⟩
  · exact calm_call cT hv (E6 v)
  clear hK K
  refine wpQuiet_step (fun K hK => ?_)
  go_simp
  refine ⟨_, fun v hv => rfl, hK _ ?_⟩
  clear hK K
  refine wpQuiet_nil ?_
  intro w3 C3
  go_wp2_with fail
  refine (E7 _).mono ?_
  rintro e w4 ⟨rfl, rfl⟩
  go_wp2_with fail
  refine (calm_call cT C3 (E8 _)).mono ?_
  rintro e w5 ⟨rfl, C5⟩
  clear C3
  go_wp2_with fail
  refine region_last 10 C (by kernel_rfl) (by kernel_rfl) (by kernel_rfl) (cD _ C5) ?_
  clear C5
  simp only [List.take_succ_cons, List.take_zero]
  refine wpQuiet_step (fun K hK => ?_)
  go_simp
  refine ⟨_, fun v hv => rfl, hK _ ?_⟩
  clear hK K
  refine wpQuiet_step (fun K hK => ?_)
  go_simp
  refine ⟨_, fun v hv => rfl, hK _ ?_⟩
  clear hK K
  refine wpQuiet_step (fun K hK => ?_)
  go_simp
  refine ⟨.string (W M), fun v hv => ?_, hK _ ?_⟩
  · exact calm_call cT hv (E9 v)
  clear hK K
  refine wpQuiet_step (fun K hK => ?_)
  go_simp
  refine ⟨_, fun v hv => rfl, hK _ ?_⟩
  clear hK K
  refine wpQuiet_step (fun K hK => ?_)
  go_simp
  refine ⟨_, fun v hv => rfl, hK _ ?_⟩
  clear hK K
  refine wpQuiet_step (fun K hK => ?_)
  go_simp
  refine ⟨.string (W T), fun v hv => ?_, hK _ ?_⟩
  · simp [c3 v hv]
  clear hK K
  refine wpQuiet_step (fun K hK => ?_)
  go_simp
  refine ⟨_, fun v hv => rfl, hK _ ?_⟩
  clear hK K
  refine wpQuiet_step (fun K hK => ?_)
  go_simp
  refine ⟨.string (W tk), fun v hv => ?_, hK _ ?_⟩
  · exact calm_call cT hv (E10 v)
  clear hK K
  refine wpQuiet_step (fun K hK => ?_)
  go_simp
  refine ⟨.string (W D), fun v hv => ?_, hK _ ?_⟩
  · exact calm_call cT hv (E11 v)
  clear hK K
  refine wpQuiet_step (fun K hK => ?_)
  go_simp
  refine ⟨_, fun v hv => rfl, hK _ ?_⟩
  clear hK K
  refine wpQuiet_nil ?_
  intro w6 C6
  have k4 := c4 w6 C6
  have k5 := c5 w6 C6
  have q4 := fc4 w6 C6
  have q5 := fc5 w6 C6
  have HB : Hid _ := cB w6 C6
  clear c0 c1 c2 c3 c4 c5 fc4 fc5 cB cT cD C6
  unfold wpOp
  simp only [List.getElem?_toArray, List.getElem?_cons_succ, List.getElem?_cons_zero]
  rw [if_pos (wanted_none rfl _)]
  refine Or.inl ?_
  go_simp
  go_wp2
  refine bodyPost_ret (v := .agg #[.string (W M), .string (W D)]) (by simp [results, Tryz.results38, go_sem, k4, k5]) rfl ⟨rfl, ?_⟩
  exact (HB.out.setCell (by simp; omega) _).setCell (by simp; omega) _

set_option maxHeartbeats 8000000 in
theorem product_raw (p q : Int) (r t g h : Nat) (w : World) (hp : tl p.natAbs ≤ 2000) (hq : tl q.natAbs ≤ 2000) (hr : tl r ≤ 2000) (ht : tl t ≤ 2000) (hr0 : r ≠ 0) (ht0 : t ≠ 0)
    (hg : g = p.natAbs.gcd t) (hh : h = q.natAbs.gcd r) :
    Calls Tryz.prog 40 #[.agg #[.string (W p), .string (W (r : Int))], .agg #[.string (W q), .string (W (t : Int))]] w fun e w' => e = .returned (.agg #[.string (W (p / (g : Int) * (q / (h : Int)))), .string (W (((r / h : Nat) : Int) * ((t / g : Nat) : Int)))]) ∧ Below w.heap.size w w' := by
  have g0 : g ≠ 0 := by rw [hg]; exact Nat.ne_of_gt (Nat.gcd_pos_of_pos_right _ (Nat.pos_of_ne_zero ht0))
  have h0 : h ≠ 0 := by rw [hh]; exact Nat.ne_of_gt (Nat.gcd_pos_of_pos_right _ (Nat.pos_of_ne_zero hr0))
  have gp : g ∣ p.natAbs := by rw [hg]; exact Nat.gcd_dvd_left _ _
  have gt : g ∣ t := by rw [hg]; exact Nat.gcd_dvd_right _ _
  have hq' : h ∣ q.natAbs := by rw [hh]; exact Nat.gcd_dvd_left _ _
  have hr' : h ∣ r := by rw [hh]; exact Nat.gcd_dvd_right _ _
  have tg : tl g ≤ 2000 := Nat.le_trans (tl_mono (Nat.le_of_dvd (Nat.pos_of_ne_zero ht0) gt)) ht
  have th : tl h ≤ 2000 := Nat.le_trans (tl_mono (Nat.le_of_dvd (Nat.pos_of_ne_zero hr0) hr')) hr
  have n1 : tl (p / (g : Int)).natAbs ≤ 2000 := Nat.le_trans (tl_mono (shorter_le g0 gp)) hp
  have n2 : tl (q / (h : Int)).natAbs ≤ 2000 := Nat.le_trans (tl_mono (shorter_le h0 hq')) hq
  have n3 : tl (r / h) ≤ 2000 := Nat.le_trans (tl_mono (Nat.div_le_self _ _)) hr
  have n4 : tl (t / g) ≤ 2000 := Nat.le_trans (tl_mono (Nat.div_le_self _ _)) ht
  have E1 : ∀ v : World, Calls Tryz.prog 64 #[.string (W p)] v fun e w' => e = .returned (.string (S p.natAbs)) ∧ Below v.heap.size v w' := fun v => calm_same (sizeW p v (by omega))
  have E2 : ∀ v : World, Calls Tryz.prog 60 #[.string (S p.natAbs), .string (W (t : Int))] v fun e w' => e = .returned (.string (S g)) ∧ Below v.heap.size v w' := fun v => by rw [hg]; exact gcd_SW _ t v (by omega) (by omega)
  have E3 : ∀ v : World, Calls Tryz.prog 64 #[.string (W q)] v fun e w' => e = .returned (.string (S q.natAbs)) ∧ Below v.heap.size v w' := fun v => calm_same (sizeW q v (by omega))
  have E4 : ∀ v : World, Calls Tryz.prog 60 #[.string (S q.natAbs), .string (W (r : Int))] v fun e w' => e = .returned (.string (S h)) ∧ Below v.heap.size v w' := fun v => by rw [hh]; exact gcd_SW _ r v (by omega) (by omega)
  have E5 : ∀ v : World, Calls Tryz.prog 61 #[.string (W p), .string (S g)] v fun e w' => e = .returned (.string (W (p / (g : Int)))) ∧ Below v.heap.size v w' := fun v => short_W p g v (by omega) (by omega) g0 gp
  have E6 : ∀ v : World, Calls Tryz.prog 61 #[.string (W q), .string (S h)] v fun e w' => e = .returned (.string (W (q / (h : Int)))) ∧ Below v.heap.size v w' := fun v => short_W q h v (by omega) (by omega) h0 hq'
  have E7 : ∀ v : World, Calls Tryz.prog 63 #[.string (W (p / (g : Int))), .string (W (q / (h : Int)))] v fun e w' => e = .returned (.string (W (p / (g : Int) * (q / (h : Int))))) ∧ Below v.heap.size v w' := fun v => mul_W _ _ v (by omega) (by omega)
  have E8 : ∀ v : World, Calls Tryz.prog 61 #[.string (W (r : Int)), .string (S h)] v fun e w' => e = .returned (.string (W ((r / h : Nat) : Int))) ∧ Below v.heap.size v w' := fun v => shortN r h v (by omega) (by omega) h0 hr'
  have E9 : ∀ v : World, Calls Tryz.prog 61 #[.string (W (t : Int)), .string (S g)] v fun e w' => e = .returned (.string (W ((t / g : Nat) : Int))) ∧ Below v.heap.size v w' := fun v => shortN t g v (by omega) (by omega) g0 gt
  have E10 : ∀ v : World, Calls Tryz.prog 63 #[.string (W ((r / h : Nat) : Int)), .string (W ((t / g : Nat) : Int))] v fun e w' => e = .returned (.string (W (((r / h : Nat) : Int) * ((t / g : Nat) : Int)))) ∧ Below v.heap.size v w' := fun v => mul_W _ _ v (by simp only [Int.natAbs_natCast]; omega) (by simp only [Int.natAbs_natCast]; omega)
  clear hp hq hr ht hr0 ht0 hg hh g0 h0 gp gt hq' hr' tg th n1 n2 n3 n4
  generalize (((r / h : Nat) : Int) * ((t / g : Nat) : Int)) = D at *
  generalize (p / (g : Int) * (q / (h : Int))) = M at *
  generalize (p / (g : Int)) = A at *
  generalize (q / (h : Int)) = B at *
  generalize ((t / g : Nat) : Int) = tg at *
  generalize ((r / h : Nat) : Int) = rh at *
  generalize p.natAbs = pp at *
  generalize q.natAbs = qq at *
  generalize (r : Int) = R at *
  generalize (t : Int) = T at *
  obtain ⟨C, hC⟩ : ∃ C : World → Prop, C = fun v => Below (((w.alloc (.cells #[.string (W p), .string (W R)] 52)).alloc (.cells #[.string (W q), .string (W T)] 52)).alloc (.cells #[.string ⟨#[]⟩, .string ⟨#[]⟩] 52)).heap.size (((w.alloc (.cells #[.string (W p), .string (W R)] 52)).alloc (.cells #[.string (W q), .string (W T)] 52)).alloc (.cells #[.string ⟨#[]⟩, .string ⟨#[]⟩] 52)) v := ⟨_, rfl⟩
  have c0 : ∀ v, C v → v.cell? ⟨w.heap.size, 0, none⟩ = some (.string (W p)) := fun v h => by subst hC; exact (own3 h).1 0
  have c1 : ∀ v, C v → v.cell? ⟨w.heap.size, 1, none⟩ = some (.string (W R)) := fun v h => by subst hC; exact (own3 h).1 1
  have c2 : ∀ v, C v → v.cell? ⟨w.heap.size + 1, 0, none⟩ = some (.string (W q)) := fun v h => by subst hC; exact (own3 h).2.1 0
  have c3 : ∀ v, C v → v.cell? ⟨w.heap.size + 1, 1, none⟩ = some (.string (W T)) := fun v h => by subst hC; exact (own3 h).2.1 1
  have c4 : ∀ v, C v → v.cell? ⟨w.heap.size + 1 + 1, 0, none⟩ = some (.string ⟨#[]⟩) := fun v h => by subst hC; exact (own3 h).2.2.1 0
  have fc4 : ∀ v, C v → v.frozen? ⟨w.heap.size + 1 + 1, 0, none⟩ = false := fun v h => by subst hC; exact (own3 h).2.2.2.1 0
  have c5 : ∀ v, C v → v.cell? ⟨w.heap.size + 1 + 1, 1, none⟩ = some (.string ⟨#[]⟩) := fun v h => by subst hC; exact (own3 h).2.2.1 1
  have fc5 : ∀ v, C v → v.frozen? ⟨w.heap.size + 1 + 1, 1, none⟩ = false := fun v h => by subst hC; exact (own3 h).2.2.2.1 1
  have cB : ∀ v, C v → Below w.heap.size w v := fun v h => by subst hC; exact (own3 h).2.2.2.2
  have cT : ∀ u v, C u → Below u.heap.size u v → C v := fun u v h k => by subst hC; exact h.trans (k.mono h.size)
  have cD : ∀ v, C v → C v.drew := fun v h => by subst hC; exact h.drew
  have cI : C (((w.alloc (.cells #[.string (W p), .string (W R)] 52)).alloc (.cells #[.string (W q), .string (W T)] 52)).alloc (.cells #[.string ⟨#[]⟩, .string ⟨#[]⟩] 52)) := by subst hC; exact Below.refl _ _
  clear hC
  go_enter Tryz.func40, Tryz.ntmps40
  go_wp2_with fail
  refine region_calm C (by kernel_rfl) (by kernel_rfl) (cD _ cI) ?_
  clear cI
  refine wpQuiet_step (fun K hK => ?_)
  go_simp
  refine ⟨_, fun v hv => rfl, hK _ ?_⟩
  clear hK K
  refine wpQuiet_step (fun K hK => ?_)
  go_simp
  refine ⟨.string (W p), fun v hv => ?_, hK _ ?_⟩
  · simp [c0 v hv]
  clear hK K
  refine wpQuiet_step (fun K hK => ?_)
  go_simp
  refine ⟨.string (S pp), fun v hv => ?_, hK _ ?_⟩
  · exact calm_call cT hv (E1 v)
  clear hK K
  refine wpQuiet_step (fun K hK => ?_)
  go_simp
  refine ⟨_, fun v hv => rfl, hK _ ?_⟩
  clear hK K
  refine wpQuiet_step (fun K hK => ?_)
  go_simp
  refine ⟨.string (W T), fun v hv => ?_, hK _ ?_⟩
  · simp [c3 v hv]
  clear hK K
  refine wpQuiet_step (fun K hK => ?_)
  go_simp
  refine ⟨.string (S g), fun v hv => ?_, hK _ ?_⟩
  · exact calm_call cT hv (E2 v)
  clear hK K
  refine wpQuiet_step (fun K hK => ?_)
  go_simp
  refine ⟨_, fun v hv => rfl, hK _ ?_⟩
  clear hK K
  refine wpQuiet_nil ?_
  intro w1 C1
  go_wp2_with fail
  refine region_calm C (by kernel_rfl) (by kernel_rfl) (cD _ C1) ?_
  clear C1
  refine wpQuiet_step (fun K hK => ?_)
  go_simp
  refine ⟨_, fun v hv => rfl, hK _ ?_⟩
  clear hK K
  refine wpQuiet_step (fun K hK => ?_)
  go_simp
  refine ⟨.string (W q), fun v hv => ?_, hK _ ?_⟩
  · simp [c2 v hv]
  clear hK K
  refine wpQuiet_step (fun K hK => ?_)
  go_simp
  refine ⟨.string (S qq), fun v hv => ?_, hK _ ?_⟩
  · exact calm_call cT hv (E3 v)
  clear hK K
  refine wpQuiet_step (fun K hK => ?_)
  go_simp
  refine ⟨_, fun v hv => rfl, hK _ ?_⟩
  clear hK K
  refine wpQuiet_step (fun K hK => ?_)
  go_simp
  refine ⟨.string (W R), fun v hv => ?_, hK _ ?_⟩
  · simp [c1 v hv]
  clear hK K
  refine wpQuiet_step (fun K hK => ?_)
  go_simp
  refine ⟨.string (S h), fun v hv => ?_, hK _ ?_⟩
  · exact calm_call cT hv (E4 v)
  clear hK K
  refine wpQuiet_step (fun K hK => ?_)
  go_simp
  refine ⟨_, fun v hv => rfl, hK _ ?_⟩
  clear hK K
  refine wpQuiet_nil ?_
  intro w2 C2
  go_wp2_with fail
  refine region_last 19 C (by kernel_rfl) (by kernel_rfl) (by kernel_rfl) (cD _ C2) ?_
  clear C2
  simp only [List.take_succ_cons, List.take_zero]
  refine wpQuiet_step (fun K hK => ?_)
  go_simp
  refine ⟨_, fun v hv => rfl, hK _ ?_⟩
  clear hK K
  refine wpQuiet_step (fun K hK => ?_)
  go_simp
  refine ⟨.string (W p), fun v hv => ?_, hK _ ?_⟩
  · simp [c0 v hv]
  clear hK K
  refine wpQuiet_step (fun K hK => ?_)
  go_simp
  refine ⟨_, fun v hv => rfl, hK _ ?_⟩
  clear hK K
  refine wpQuiet_step (fun K hK => ?_)
  go_simp
  refine ⟨.string (W A), fun v hv => ?_, hK _ ?_⟩
  · exact calm_call cT hv (E5 v)
  clear hK K
  refine wpQuiet_step (fun K hK => ?_)
  go_simp
  refine ⟨_, fun v hv => rfl, hK _ ?_⟩
  clear hK K
  refine wpQuiet_step (fun K hK => ?_)
  go_simp
  refine ⟨.string (W q), fun v hv => ?_, hK _ ?_⟩
  · simp [c2 v hv]
  clear hK K
  refine wpQuiet_step (fun K hK => ?_)
  go_simp
  refine ⟨_, fun v hv => rfl, hK _ ?_⟩
  clear hK K
  refine wpQuiet_step (fun K hK => ?_)
  go_simp
  refine ⟨.string (W B), fun v hv => ?_, hK _ ?_⟩
  · exact calm_call cT hv (E6 v)
  clear hK K
  refine wpQuiet_step (fun K hK => ?_)
  go_simp
  refine ⟨.string (W M), fun v hv => ?_, hK _ ?_⟩
  · exact calm_call cT hv (E7 v)
  clear hK K
  refine wpQuiet_step (fun K hK => ?_)
  go_simp
  refine ⟨_, fun v hv => rfl, hK _ ?_⟩
  clear hK K
  refine wpQuiet_step (fun K hK => ?_)
  go_simp
  refine ⟨.string (W R), fun v hv => ?_, hK _ ?_⟩
  · simp [c1 v hv]
  clear hK K
  refine wpQuiet_step (fun K hK => ?_)
  go_simp
  refine ⟨_, fun v hv => rfl, hK _ ?_⟩
  clear hK K
  refine wpQuiet_step (fun K hK => ?_)
  go_simp
  refine ⟨.string (W rh), fun v hv => ?_, hK _ ?_⟩
  · exact calm_call cT hv (E8 v)
  clear hK K
  refine wpQuiet_step (fun K hK => ?_)
  go_simp
  refine ⟨_, fun v hv => rfl, hK _ ?_⟩
  clear hK K
  refine wpQuiet_step (fun K hK => ?_)
  go_simp
  refine ⟨.string (W T), fun v hv => ?_, hK _ ?_⟩
  · simp [c3 v hv]
  clear hK K
  refine wpQuiet_step (fun K hK => ?_)
  go_simp
  refine ⟨_, fun v hv => rfl, hK _ ?_⟩
  clear hK K
  refine wpQuiet_step (fun K hK => ?_)
  go_simp
  refine ⟨.string (W tg), fun v hv => ?_, hK _ ?_⟩
  · exact calm_call cT hv (E9 v)
  clear hK K
  refine wpQuiet_step (fun K hK => ?_)
  go_simp
  refine ⟨.string (W D), fun v hv => ?_, hK _ ?_⟩
  · exact calm_call cT hv (E10 v)
  clear hK K
  refine wpQuiet_step (fun K hK => ?_)
  go_simp
  refine ⟨_, fun v hv => rfl, hK _ ?_⟩
  clear hK K
  refine wpQuiet_nil ?_
  intro w6 C6
  have k4 := c4 w6 C6
  have k5 := c5 w6 C6
  have q4 := fc4 w6 C6
  have q5 := fc5 w6 C6
  have HB : Hid _ := cB w6 C6
  clear c0 c1 c2 c3 c4 c5 fc4 fc5 cB cT cD C6
  unfold wpOp
  simp only [List.getElem?_toArray, List.getElem?_cons_succ, List.getElem?_cons_zero]
  rw [if_pos (wanted_none rfl _)]
  refine Or.inl ?_
  go_simp
  go_wp2
  refine bodyPost_ret (v := .agg #[.string (W M), .string (W D)]) (by simp [results, Tryz.results40, go_sem, k4, k5]) rfl ⟨rfl, ?_⟩
  exact (HB.out.setCell (by simp; omega) _).setCell (by simp; omega) _

end Go.Proofs.YtpmnfgbbkmodpaaGreatDoor
