/-
  QUOTIENTS OF FRACTIONS: what quotient of package rat gives. Conditions: each theorem's own (what the calls inside give; the package's errors stand where they were laid).
-/
import Derived.Test.YtpmnfgbbkmodpaaGreatDoorMix
import Derived.Deep.CutRange
import Derived.BigRegion
namespace Go.Proofs.YtpmnfgbbkmodpaaGreatDoor
set_option maxRecDepth 100000
open Go.RowKit Nm
set_option linter.unusedVariables false

set_option maxHeartbeats 4000000 in
theorem quotient_zero (X1 X2 Y2 : ByteArray) (aF aZ : Addr) (w : World) (hE : Er w aF aZ) :
    Calls Tryz.prog 44 #[.agg #[.string X1, .string X2], .agg #[.string ⟨#[48]⟩, .string Y2]] w fun e w' => e = .returned (.tuple #[.agg #[.string ⟨#[]⟩, .string ⟨#[]⟩], fault ⟨#[48]⟩ aZ]) ∧ Below w.heap.size w w' := by
  have hZ := (((hE.more (.cells #[.string X1, .string X2] 52)).more (.cells #[.string ⟨#[48]⟩, .string Y2] 52)).more (.cells #[.string ⟨#[]⟩, .string ⟨#[]⟩] 52)).z
  have HB : Hid _ := Below.refl w.heap.size w
  clear hE
  go_enter Tryz.func44, Tryz.ntmps44
  go_wp2_with fail
  go_region
  all_goals go_wp2
  all_goals refine bodyPost_ret (v := .tuple #[.agg #[.string ⟨#[]⟩, .string ⟨#[]⟩], fault ⟨#[48]⟩ aZ]) (by simp [results, Tryz.results44, go_sem]) rfl ⟨rfl, ?_⟩
  all_goals repeat' (first | exact HB.out | apply bl_alloc | apply bl_drew | refine Below.setCell ?_ (by simp; omega) _)

set_option maxHeartbeats 8000000 in
theorem quotient_pos (X1 X2 Y1 Y2 Z D1 D2 : ByteArray) (w : World) (h0 : (Y1.toList == [48]) = false)
    (E1 : ∀ v : World, Calls Tryz.prog 64 #[.string Y1] v fun e w' => e = .returned (.string Z) ∧ w' = v)
    (E2 : ∀ v : World, Calls Tryz.prog 67 #[.string Y1] v fun e w' => e = .returned (.bool false) ∧ w' = v)
    (E4 : ∀ v : World, Calls Tryz.prog 40 #[.agg #[.string X1, .string X2], .agg #[.string Y2, .string Z]] v fun e w' => e = .returned (.agg #[.string D1, .string D2]) ∧ Below v.heap.size v w') :
    Calls Tryz.prog 44 #[.agg #[.string X1, .string X2], .agg #[.string Y1, .string Y2]] w fun e w' => e = .returned (.tuple #[.agg #[.string D1, .string D2], .nilIface]) ∧ Below w.heap.size w w' := by
  obtain ⟨V, hV⟩ : ∃ V : World, V = ((((w.alloc (.cells #[.string X1, .string X2] 52)).alloc (.cells #[.string Y1, .string Y2] 52)).alloc (.cells #[.string ⟨#[]⟩, .string ⟨#[]⟩] 52)).alloc (.cells #[.string Y2, .string Z] 52)) := ⟨_, rfl⟩
  obtain ⟨Q, hQ⟩ : ∃ Q : World → Prop, Q = fun v => Below V.heap.size V v := ⟨_, rfl⟩
  have size : V.heap.size = w.heap.size + 1 + 1 + 1 + 1 := by subst hV; simp
  have blk : ∀ v, Q v → v.heap[w.heap.size]? = some (.cells #[.string X1, .string X2] 52) ∧ v.heap[w.heap.size + 1]? = some (.cells #[.string Y1, .string Y2] 52) ∧ v.heap[w.heap.size + 1 + 1]? = some (.cells #[.string ⟨#[]⟩, .string ⟨#[]⟩] 52) ∧ v.heap[w.heap.size + 1 + 1 + 1]? = some (.cells #[.string Y2, .string Z] 52) := by
    intro v h
    subst hQ
    have K : ∀ k, k < w.heap.size + 1 + 1 + 1 + 1 → v.heap[k]? = V.heap[k]? := fun k hk => h.block k (by rw [size]; exact hk)
    refine ⟨?_, ?_, ?_, ?_⟩
    · rw [K _ (by omega), hV, Below.heap_alloc _ _ _ (by simp <;> omega), Below.heap_alloc _ _ _ (by simp <;> omega), Below.heap_alloc _ _ _ (by simp)]; exact heap_alloc_new w _
    · rw [K _ (by omega), hV, Below.heap_alloc _ _ _ (by simp <;> omega), Below.heap_alloc _ _ _ (by simp)]
      have := heap_alloc_new (w.alloc (.cells #[.string X1, .string X2] 52)) (.cells #[.string Y1, .string Y2] 52); simpa using this
    · rw [K _ (by omega), hV, Below.heap_alloc _ _ _ (by simp)]
      have := heap_alloc_new ((w.alloc (.cells #[.string X1, .string X2] 52)).alloc (.cells #[.string Y1, .string Y2] 52)) (.cells #[.string ⟨#[]⟩, .string ⟨#[]⟩] 52); simpa using this
    · rw [K _ (by omega), hV]
      have := heap_alloc_new (((w.alloc (.cells #[.string X1, .string X2] 52)).alloc (.cells #[.string Y1, .string Y2] 52)).alloc (.cells #[.string ⟨#[]⟩, .string ⟨#[]⟩] 52)) (.cells #[.string Y2, .string Z] 52); simpa using this
  have qB : ∀ v, Q v → Below w.heap.size w v := fun v h => by
    subst hQ
    refine Below.trans ?_ (h.mono (show w.heap.size ≤ V.heap.size by omega))
    subst hV
    exact bl_alloc (bl_alloc (bl_alloc (bl_alloc (Below.refl _ w) _) _) _) _
  have qT : ∀ u v, Q u → Below u.heap.size u v → Q v := fun u v h k => by subst hQ; exact h.trans (k.mono h.size)
  have qI : ∀ u : World, u.os = V.os → u.tape = V.tape → u.output = V.output → u.heap = V.heap → Q u := fun u h1 h2 h3 h4 => by
    subst hQ; exact ⟨h1, h2, h3, by rw [h4]; exact Nat.le_refl _, fun k _ => by rw [h4]⟩
  clear hQ size
  go_enter Tryz.func44, Tryz.ntmps44
  go_upto_region 3 with fail
  go_cut [6] from 7 (fun s6 v => s6 = .pointer (some ⟨w.heap.size + 1 + 1 + 1, 0, none⟩) ∧ Q v)
  case first =>
    go_region_with (first | (go_at_call 64; refine (E1 _).mono ?_; rintro e w1 ⟨rfl, rfl⟩))
    all_goals (go_wp2_with fail; go_meet)
    all_goals exact ⟨rfl, qI _ (by rw [hV]; rfl) (by rw [hV]; rfl) (by rw [hV]; rfl) (by rw [hV]; rfl)⟩
  case rest =>
    obtain ⟨rfl, hq⟩ := hcut
    obtain ⟨b0, b1, b2, b3⟩ := blk _ hq
    have r0 : wc.cell? ⟨w.heap.size, 0, none⟩ = some (.string X1) := by simp [World.cell?, b0]
    have r1 : wc.cell? ⟨w.heap.size, 1, none⟩ = some (.string X2) := by simp [World.cell?, b0]
    have r2 : wc.cell? ⟨w.heap.size + 1, 0, none⟩ = some (.string Y1) := by simp [World.cell?, b1]
    have r4 : wc.cell? ⟨w.heap.size + 1 + 1, 0, none⟩ = some (.string ⟨#[]⟩) := by simp [World.cell?, b2]
    have r5 : wc.cell? ⟨w.heap.size + 1 + 1, 1, none⟩ = some (.string ⟨#[]⟩) := by simp [World.cell?, b2]
    have r6 : wc.cell? ⟨w.heap.size + 1 + 1 + 1, 0, none⟩ = some (.string Y2) := by simp [World.cell?, b3]
    have r7 : wc.cell? ⟨w.heap.size + 1 + 1 + 1, 1, none⟩ = some (.string Z) := by simp [World.cell?, b3]
    clear b0 b1 b2 b3
    go_wp2_with fail
    refine (E2 _).mono ?_
    rintro e w2 ⟨rfl, rfl⟩
    go_wp2_with fail
    refine (E4 _).mono ?_
    rintro e w4 ⟨rfl, h4⟩
    have Q4 := qT _ _ hq h4
    clear r0 r1 r2 r4 r5 r6 r7 hq h4
    obtain ⟨b0, b1, b2, b3⟩ := blk _ Q4
    have s4 : w4.cell? ⟨w.heap.size + 1 + 1, 0, none⟩ = some (.string ⟨#[]⟩) := by simp [World.cell?, b2]
    have s5 : w4.cell? ⟨w.heap.size + 1 + 1, 1, none⟩ = some (.string ⟨#[]⟩) := by simp [World.cell?, b2]
    have g4 : w4.frozen? ⟨w.heap.size + 1 + 1, 0, none⟩ = false := by simp [World.frozen?, b2]
    have g5 : w4.frozen? ⟨w.heap.size + 1 + 1, 1, none⟩ = false := by simp [World.frozen?, b2]
    have HB : Hid _ := qB _ Q4
    clear b0 b1 b2 b3 Q4
    go_wp2
    refine bodyPost_ret (v := .tuple #[.agg #[.string D1, .string D2], .nilIface]) (by simp [results, Tryz.results44, go_sem, s4, s5]) rfl ⟨rfl, ?_⟩
    exact (HB.out.setCell (by simp; omega) _).setCell (by simp; omega) _

set_option maxHeartbeats 8000000 in
theorem quotient_neg (X1 X2 Y1 Y2 Z N1 N2 D1 D2 : ByteArray) (w : World) (h0 : (Y1.toList == [48]) = false)
    (E1 : ∀ v : World, Calls Tryz.prog 64 #[.string Y1] v fun e w' => e = .returned (.string Z) ∧ w' = v)
    (E2 : ∀ v : World, Calls Tryz.prog 67 #[.string Y1] v fun e w' => e = .returned (.bool true) ∧ w' = v)
    (E3 : ∀ v : World, Calls Tryz.prog 55 #[.agg #[.string Y2, .string Z]] v fun e w' => e = .returned (.agg #[.string N1, .string N2]) ∧ Below v.heap.size v w')
    (E4 : ∀ v : World, Calls Tryz.prog 40 #[.agg #[.string X1, .string X2], .agg #[.string N1, .string N2]] v fun e w' => e = .returned (.agg #[.string D1, .string D2]) ∧ Below v.heap.size v w') :
    Calls Tryz.prog 44 #[.agg #[.string X1, .string X2], .agg #[.string Y1, .string Y2]] w fun e w' => e = .returned (.tuple #[.agg #[.string D1, .string D2], .nilIface]) ∧ Below w.heap.size w w' := by
  obtain ⟨V, hV⟩ : ∃ V : World, V = ((((w.alloc (.cells #[.string X1, .string X2] 52)).alloc (.cells #[.string Y1, .string Y2] 52)).alloc (.cells #[.string ⟨#[]⟩, .string ⟨#[]⟩] 52)).alloc (.cells #[.string Y2, .string Z] 52)) := ⟨_, rfl⟩
  obtain ⟨Q, hQ⟩ : ∃ Q : World → Prop, Q = fun v => Below V.heap.size V v := ⟨_, rfl⟩
  have size : V.heap.size = w.heap.size + 1 + 1 + 1 + 1 := by subst hV; simp
  have blk : ∀ v, Q v → v.heap[w.heap.size]? = some (.cells #[.string X1, .string X2] 52) ∧ v.heap[w.heap.size + 1]? = some (.cells #[.string Y1, .string Y2] 52) ∧ v.heap[w.heap.size + 1 + 1]? = some (.cells #[.string ⟨#[]⟩, .string ⟨#[]⟩] 52) ∧ v.heap[w.heap.size + 1 + 1 + 1]? = some (.cells #[.string Y2, .string Z] 52) := by
    intro v h
    subst hQ
    have K : ∀ k, k < w.heap.size + 1 + 1 + 1 + 1 → v.heap[k]? = V.heap[k]? := fun k hk => h.block k (by rw [size]; exact hk)
    refine ⟨?_, ?_, ?_, ?_⟩
    · rw [K _ (by omega), hV, Below.heap_alloc _ _ _ (by simp <;> omega), Below.heap_alloc _ _ _ (by simp <;> omega), Below.heap_alloc _ _ _ (by simp)]; exact heap_alloc_new w _
    · rw [K _ (by omega), hV, Below.heap_alloc _ _ _ (by simp <;> omega), Below.heap_alloc _ _ _ (by simp)]
      have := heap_alloc_new (w.alloc (.cells #[.string X1, .string X2] 52)) (.cells #[.string Y1, .string Y2] 52); simpa using this
    · rw [K _ (by omega), hV, Below.heap_alloc _ _ _ (by simp)]
      have := heap_alloc_new ((w.alloc (.cells #[.string X1, .string X2] 52)).alloc (.cells #[.string Y1, .string Y2] 52)) (.cells #[.string ⟨#[]⟩, .string ⟨#[]⟩] 52); simpa using this
    · rw [K _ (by omega), hV]
      have := heap_alloc_new (((w.alloc (.cells #[.string X1, .string X2] 52)).alloc (.cells #[.string Y1, .string Y2] 52)).alloc (.cells #[.string ⟨#[]⟩, .string ⟨#[]⟩] 52)) (.cells #[.string Y2, .string Z] 52); simpa using this
  have qB : ∀ v, Q v → Below w.heap.size w v := fun v h => by
    subst hQ
    refine Below.trans ?_ (h.mono (show w.heap.size ≤ V.heap.size by omega))
    subst hV
    exact bl_alloc (bl_alloc (bl_alloc (bl_alloc (Below.refl _ w) _) _) _) _
  have qT : ∀ u v, Q u → Below u.heap.size u v → Q v := fun u v h k => by subst hQ; exact h.trans (k.mono h.size)
  have qI : ∀ u : World, u.os = V.os → u.tape = V.tape → u.output = V.output → u.heap = V.heap → Q u := fun u h1 h2 h3 h4 => by
    subst hQ; exact ⟨h1, h2, h3, by rw [h4]; exact Nat.le_refl _, fun k _ => by rw [h4]⟩
  clear hQ size
  go_enter Tryz.func44, Tryz.ntmps44
  go_upto_region 3 with fail
  go_cut [6] from 7 (fun s6 v => s6 = .pointer (some ⟨w.heap.size + 1 + 1 + 1, 0, none⟩) ∧ Q v)
  case first =>
    go_region_with (first | (go_at_call 64; refine (E1 _).mono ?_; rintro e w1 ⟨rfl, rfl⟩))
    all_goals (go_wp2_with fail; go_meet)
    all_goals exact ⟨rfl, qI _ (by rw [hV]; rfl) (by rw [hV]; rfl) (by rw [hV]; rfl) (by rw [hV]; rfl)⟩
  case rest =>
    obtain ⟨rfl, hq⟩ := hcut
    obtain ⟨b0, b1, b2, b3⟩ := blk _ hq
    have r0 : wc.cell? ⟨w.heap.size, 0, none⟩ = some (.string X1) := by simp [World.cell?, b0]
    have r1 : wc.cell? ⟨w.heap.size, 1, none⟩ = some (.string X2) := by simp [World.cell?, b0]
    have r2 : wc.cell? ⟨w.heap.size + 1, 0, none⟩ = some (.string Y1) := by simp [World.cell?, b1]
    have r4 : wc.cell? ⟨w.heap.size + 1 + 1, 0, none⟩ = some (.string ⟨#[]⟩) := by simp [World.cell?, b2]
    have r5 : wc.cell? ⟨w.heap.size + 1 + 1, 1, none⟩ = some (.string ⟨#[]⟩) := by simp [World.cell?, b2]
    have r6 : wc.cell? ⟨w.heap.size + 1 + 1 + 1, 0, none⟩ = some (.string Y2) := by simp [World.cell?, b3]
    have r7 : wc.cell? ⟨w.heap.size + 1 + 1 + 1, 1, none⟩ = some (.string Z) := by simp [World.cell?, b3]
    clear b0 b1 b2 b3
    go_wp2_with fail
    refine (E2 _).mono ?_
    rintro e w2 ⟨rfl, rfl⟩
    go_wp2_with fail
    refine (E3 _).mono ?_
    rintro e w3 ⟨rfl, h3⟩
    have Q3 := qT _ _ hq h3
    clear r0 r1 r2 r4 r5 r6 r7 hq h3
    obtain ⟨b0, b1, b2, b3⟩ := blk _ Q3
    have r0 : w3.cell? ⟨w.heap.size, 0, none⟩ = some (.string X1) := by simp [World.cell?, b0]
    have r1 : w3.cell? ⟨w.heap.size, 1, none⟩ = some (.string X2) := by simp [World.cell?, b0]
    have r6 : w3.cell? ⟨w.heap.size + 1 + 1 + 1, 0, none⟩ = some (.string Y2) := by simp [World.cell?, b3]
    have r7 : w3.cell? ⟨w.heap.size + 1 + 1 + 1, 1, none⟩ = some (.string Z) := by simp [World.cell?, b3]
    have f6 : w3.frozen? ⟨w.heap.size + 1 + 1 + 1, 0, none⟩ = false := by simp [World.frozen?, b3]
    have f7 : w3.frozen? ⟨w.heap.size + 1 + 1 + 1, 1, none⟩ = false := by simp [World.frozen?, b3]
    have HB3 : Hid _ := qB _ Q3
    have HS : Hid (w.heap.size + 1 + 1 + 1 < w3.heap.size) := lt_of_some b3
    have B2 : Hid _ := b2
    clear b0 b1 b2 b3
    go_wp2_with fail
    refine (E4 _).mono ?_
    rintro e w4 ⟨rfl, h4⟩
    have hw4 : w4.heap[w.heap.size + 1 + 1]? = some (.cells #[.string ⟨#[]⟩, .string ⟨#[]⟩] 52) := by
      rw [h4.block _ (by simp; have := HS.out; omega)]
      simp only [World.setCell, Array.getElem?_modify]
      simp
      exact B2.out
    have s4 : w4.cell? ⟨w.heap.size + 1 + 1, 0, none⟩ = some (.string ⟨#[]⟩) := by simp [World.cell?, hw4]
    have s5 : w4.cell? ⟨w.heap.size + 1 + 1, 1, none⟩ = some (.string ⟨#[]⟩) := by simp [World.cell?, hw4]
    have g4 : w4.frozen? ⟨w.heap.size + 1 + 1, 0, none⟩ = false := by simp [World.frozen?, hw4]
    have g5 : w4.frozen? ⟨w.heap.size + 1 + 1, 1, none⟩ = false := by simp [World.frozen?, hw4]
    have HB : Hid (Below w.heap.size w w4) := Below.trans ((HB3.out.setCell (by simp; omega) _).setCell (by simp; omega) _) (h4.mono (by simp; have := HS.out; omega))
    clear r0 r1 r6 r7 f6 f7 h4 hw4
    go_wp2
    refine bodyPost_ret (v := .tuple #[.agg #[.string D1, .string D2], .nilIface]) (by simp [results, Tryz.results44, go_sem, s4, s5]) rfl ⟨rfl, ?_⟩
    exact (HB.out.setCell (by simp; omega) _).setCell (by simp; omega) _

theorem W0 : W 0 = ⟨#[48]⟩ := by rw [W_zero, S0]
theorem notW0 {z : Int} (h : z ≠ 0) : ((W z).toList == [48]) = false := by
  have := eqW h; rw [W0, toList_data ⟨#[48]⟩] at this; exact this

theorem quotient_R (a b : Rat) (w : World) (ha : Bd a 2000) (hb : Bd b 2000) (h0 : b ≠ 0) :
    Calls Tryz.prog 44 #[fr a, fr b] w fun e w' => e = .returned (.tuple #[fr (a / b), .nilIface]) ∧ Below w.heap.size w w' := by
  have hn : b.num ≠ 0 := fun h => h0 (num_zero.1 h)
  have hi : (b⁻¹).num = vl (decide (b.num < 0)) b.den := (inv_num b).resolve_right hn
  have hd := inv_den hn
  have hB : Bd (b⁻¹) 2000 := by
    refine ⟨?_, by rw [hd]; exact hb.1⟩
    rw [hi]; have : (vl (decide (b.num < 0)) b.den).natAbs = b.den := by cases decide (b.num < 0) <;> simp [vl]
    rw [this]; exact hb.2
  have t1 := hb.1
  have t2 := hb.2
  rw [Rat.div_def]
  have P := fun v => product_R a b⁻¹ v ha hB
  by_cases hneg : b.num < 0
  · rw [decide_eq_true hneg] at hi
    have hs : ∀ v : World, Calls Tryz.prog 55 #[.agg #[.string (S b.den), .string (S b.num.natAbs)]] v fun e w' => e = .returned (.agg #[.string (W (b⁻¹).num), .string (S (b⁻¹).den)]) ∧ Below v.heap.size v w' := fun v => by
      have := negated_raw (b.den : Int) (S b.num.natAbs) v (by simp only [Int.natAbs_natCast]; omega)
      rw [W_nat] at this
      rw [hi, hd, show vl true b.den = -(b.den : Int) from rfl]; exact this
    exact quotient_neg (W a.num) (S a.den) (W b.num) (S b.den) (S b.num.natAbs) (W (b⁻¹).num) (S (b⁻¹).den) (W (a * b⁻¹).num) (S (a * b⁻¹).den) w (notW0 hn)
      (fun v => sizeW b.num v (by omega)) (fun v => by have := below_any (W b.num) v (by have := W_size b.num; omega); rw [mn_W, decide_eq_true hneg] at this; exact this) hs P
  · rw [decide_eq_false hneg] at hi
    have P' : ∀ v : World, Calls Tryz.prog 40 #[.agg #[.string (W a.num), .string (S a.den)], .agg #[.string (S b.den), .string (S b.num.natAbs)]] v fun e w' => e = .returned (.agg #[.string (W (a * b⁻¹).num), .string (S (a * b⁻¹).den)]) ∧ Below v.heap.size v w' := fun v => by
      have h := P v
      have e1 : W (b⁻¹).num = S b.den := by rw [hi]; exact W_nat b.den
      have e2 : S (b⁻¹).den = S b.num.natAbs := by rw [hd]
      unfold fr at h
      rw [e1, e2] at h
      exact h
    exact quotient_pos (W a.num) (S a.den) (W b.num) (S b.den) (S b.num.natAbs) (W (a * b⁻¹).num) (S (a * b⁻¹).den) w (notW0 hn)
      (fun v => sizeW b.num v (by omega)) (fun v => by have := below_any (W b.num) v (by have := W_size b.num; omega); rw [mn_W, decide_eq_false hneg] at this; exact this) P'
theorem quotient_no (a : Rat) (aF aZ : Addr) (w : World) (hE : Er w aF aZ) :
    Calls Tryz.prog 44 #[fr a, fr 0] w fun e w' => e = .returned (.tuple #[.agg #[.string ⟨#[]⟩, .string ⟨#[]⟩], fault ⟨#[48]⟩ aZ]) ∧ Below w.heap.size w w' := by
  have h := quotient_zero (W a.num) (S a.den) (S 1) aF aZ w hE
  rw [← W0] at h
  exact h
end Go.Proofs.YtpmnfgbbkmodpaaGreatDoor
