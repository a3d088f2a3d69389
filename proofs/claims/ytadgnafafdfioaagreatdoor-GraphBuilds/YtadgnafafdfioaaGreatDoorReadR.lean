/-
  THE DOCUMENT'S RATIONALS. Conditions: each theorem's own.
-/
import Derived.Test.YtadgnafafdfioaaGreatDoorApi
import Derived.Test.YtadgnafafdfioaaGreatDoorBoth
import Derived.Test.YtadgnafafdfioaaGreatDoorRef
import Derived.BigRegion
namespace Go.Proofs.YtadgnafafdfioaaGreatDoor
section
set_option maxRecDepth 100000
open Go.RowKit Nm
set_option linter.unusedVariables false

set_option maxHeartbeats 4000000 in
theorem low_pp (P Q n G n2 q2 r1 r2 : ByteArray) (s : Int) (w : World)
    (Es : ∀ v : World, Calls Tryz.prog 52 #[.string Q] v fun e w' => e = .returned (.int .i64 1) ∧ w' = v)
    (Ez : ∀ v : World, Calls Tryz.prog 51 #[.string P] v fun e w' => e = .returned (.string n) ∧ w' = v)
    (Eg : ∀ v : World, Calls Tryz.prog 54 #[.string n, .string Q] v fun e w' => e = .returned (.string G) ∧ Below v.heap.size v w')
    (Ed : ∀ v : World, Calls Tryz.prog 55 #[.string n, .string G] v fun e w' => e = .returned (.tuple #[.string n2, .string r1]) ∧ Below v.heap.size v w')
    (Ef : ∀ v : World, Calls Tryz.prog 55 #[.string Q, .string G] v fun e w' => e = .returned (.tuple #[.string q2, .string r2]) ∧ Below v.heap.size v w')
    (Et : ∀ v : World, Calls Tryz.prog 52 #[.string P] v fun e w' => e = .returned (.int .i64 s) ∧ w' = v) (hs : ¬ s < 0) :
    Calls Tryz.prog 42 #[.string P, .string Q] w fun e w' => e = .returned (.agg #[.string n2, .string q2]) ∧ Below w.heap.size w w' := by
  go_enter Tryz.func42, Tryz.ntmps42
  go_wp2_with fail
  refine (Es _).mono ?_
  rintro e u ⟨rfl, rfl⟩
  go_wp2_with fail
  refine (Ez _).mono ?_
  rintro e u ⟨rfl, rfl⟩
  go_wp2_with fail
  refine (Eg _).mono ?_
  rintro e v1 ⟨rfl, k1⟩
  go_wp2_with fail
  refine (Ed _).mono ?_
  rintro e v2 ⟨rfl, k2⟩
  go_wp2_with fail
  refine (Ef _).mono ?_
  rintro e v3 ⟨rfl, k3⟩
  go_wp2_with fail
  refine (Et _).mono ?_
  rintro e u ⟨rfl, rfl⟩
  obtain ⟨o1, o2, o3⟩ := own1 (bl_trans (bl_trans k1 k2) k3)
  have c0 := o1 0
  have c1 := o1 1
  have f0 := o2 0
  have f1 := o2 1
  have HB : Hid _ := o3
  clear o1 o2 o3 k1 k2 k3
  simp at c0 c1
  go_wp2
  refine bodyPost_ret (v := .agg #[.string n2, .string q2]) (by simp [results, Tryz.results42, go_sem, c0, c1]) rfl ⟨rfl, ?_⟩
  repeat' (first | exact HB.out | apply bl_drew | refine Below.setCell ?_ (by simp) _)

set_option maxHeartbeats 4000000 in
theorem low_pn (P Q n G n2 q2 r1 r2 : ByteArray) (s : Int) (w : World)
    (Es : ∀ v : World, Calls Tryz.prog 52 #[.string Q] v fun e w' => e = .returned (.int .i64 1) ∧ w' = v)
    (Ez : ∀ v : World, Calls Tryz.prog 51 #[.string P] v fun e w' => e = .returned (.string n) ∧ w' = v)
    (Eg : ∀ v : World, Calls Tryz.prog 54 #[.string n, .string Q] v fun e w' => e = .returned (.string G) ∧ Below v.heap.size v w')
    (Ed : ∀ v : World, Calls Tryz.prog 55 #[.string n, .string G] v fun e w' => e = .returned (.tuple #[.string n2, .string r1]) ∧ Below v.heap.size v w')
    (Ef : ∀ v : World, Calls Tryz.prog 55 #[.string Q, .string G] v fun e w' => e = .returned (.tuple #[.string q2, .string r2]) ∧ Below v.heap.size v w')
    (Et : ∀ v : World, Calls Tryz.prog 52 #[.string P] v fun e w' => e = .returned (.int .i64 s) ∧ w' = v) (hs : s < 0) (hl : n2.size ≤ 50000) :
    Calls Tryz.prog 42 #[.string P, .string Q] w fun e w' => e = .returned (.agg #[.string (⟨#[45]⟩ ++ n2), .string q2]) ∧ Below w.heap.size w w' := by
  go_enter Tryz.func42, Tryz.ntmps42
  go_wp2_with fail
  refine (Es _).mono ?_
  rintro e u ⟨rfl, rfl⟩
  go_wp2_with fail
  refine (Ez _).mono ?_
  rintro e u ⟨rfl, rfl⟩
  go_wp2_with fail
  refine (Eg _).mono ?_
  rintro e v1 ⟨rfl, k1⟩
  go_wp2_with fail
  refine (Ed _).mono ?_
  rintro e v2 ⟨rfl, k2⟩
  go_wp2_with fail
  refine (Ef _).mono ?_
  rintro e v3 ⟨rfl, k3⟩
  go_wp2_with fail
  refine (Et _).mono ?_
  rintro e u ⟨rfl, rfl⟩
  obtain ⟨o1, o2, o3⟩ := own1 (bl_trans (bl_trans k1 k2) k3)
  have c0 := o1 0
  have c1 := o1 1
  have f0 := o2 0
  have f1 := o2 1
  have HB : Hid _ := o3
  clear o1 o2 o3 k1 k2 k3
  simp at c0 c1
  go_wp2
  refine bodyPost_ret (v := .agg #[.string (⟨#[45]⟩ ++ n2), .string q2]) (by simp [results, Tryz.results42, go_sem, c0, c1]) rfl ⟨rfl, ?_⟩
  repeat' (first | exact HB.out | apply bl_drew | refine Below.setCell ?_ (by simp) _)

set_option maxHeartbeats 4000000 in
theorem low_np (P Q P2 M n G n2 q2 r1 r2 : ByteArray) (s : Int) (w : World)
    (Es : ∀ v : World, Calls Tryz.prog 52 #[.string Q] v fun e w' => e = .returned (.int .i64 (-1)) ∧ w' = v)
    (En : ∀ v : World, Calls Tryz.prog 53 #[.string P] v fun e w' => e = .returned (.string P2) ∧ w' = v) (Em : ∀ v : World, Calls Tryz.prog 53 #[.string Q] v fun e w' => e = .returned (.string M) ∧ w' = v)
    (Ez : ∀ v : World, Calls Tryz.prog 51 #[.string P2] v fun e w' => e = .returned (.string n) ∧ w' = v)
    (Eg : ∀ v : World, Calls Tryz.prog 54 #[.string n, .string M] v fun e w' => e = .returned (.string G) ∧ Below v.heap.size v w')
    (Ed : ∀ v : World, Calls Tryz.prog 55 #[.string n, .string G] v fun e w' => e = .returned (.tuple #[.string n2, .string r1]) ∧ Below v.heap.size v w')
    (Ef : ∀ v : World, Calls Tryz.prog 55 #[.string M, .string G] v fun e w' => e = .returned (.tuple #[.string q2, .string r2]) ∧ Below v.heap.size v w')
    (Et : ∀ v : World, Calls Tryz.prog 52 #[.string P2] v fun e w' => e = .returned (.int .i64 s) ∧ w' = v) (hs : ¬ s < 0) :
    Calls Tryz.prog 42 #[.string P, .string Q] w fun e w' => e = .returned (.agg #[.string n2, .string q2]) ∧ Below w.heap.size w w' := by
  go_enter Tryz.func42, Tryz.ntmps42
  go_wp2_with fail
  refine (Es _).mono ?_
  rintro e u ⟨rfl, rfl⟩
  go_wp2_with fail
  refine (En _).mono ?_
  rintro e u ⟨rfl, rfl⟩
  go_wp2_with fail
  refine (Em _).mono ?_
  rintro e u ⟨rfl, rfl⟩
  go_wp2_with fail
  refine (Ez _).mono ?_
  rintro e u ⟨rfl, rfl⟩
  go_wp2_with fail
  refine (Eg _).mono ?_
  rintro e v1 ⟨rfl, k1⟩
  go_wp2_with fail
  refine (Ed _).mono ?_
  rintro e v2 ⟨rfl, k2⟩
  go_wp2_with fail
  refine (Ef _).mono ?_
  rintro e v3 ⟨rfl, k3⟩
  go_wp2_with fail
  refine (Et _).mono ?_
  rintro e u ⟨rfl, rfl⟩
  obtain ⟨o1, o2, o3⟩ := own1 (bl_trans (bl_trans k1 k2) k3)
  have c0 := o1 0
  have c1 := o1 1
  have f0 := o2 0
  have f1 := o2 1
  have HB : Hid _ := o3
  clear o1 o2 o3 k1 k2 k3
  simp at c0 c1
  go_wp2
  refine bodyPost_ret (v := .agg #[.string n2, .string q2]) (by simp [results, Tryz.results42, go_sem, c0, c1]) rfl ⟨rfl, ?_⟩
  repeat' (first | exact HB.out | apply bl_drew | refine Below.setCell ?_ (by simp) _)

set_option maxHeartbeats 4000000 in
theorem low_nn (P Q P2 M n G n2 q2 r1 r2 : ByteArray) (s : Int) (w : World)
    (Es : ∀ v : World, Calls Tryz.prog 52 #[.string Q] v fun e w' => e = .returned (.int .i64 (-1)) ∧ w' = v)
    (En : ∀ v : World, Calls Tryz.prog 53 #[.string P] v fun e w' => e = .returned (.string P2) ∧ w' = v) (Em : ∀ v : World, Calls Tryz.prog 53 #[.string Q] v fun e w' => e = .returned (.string M) ∧ w' = v)
    (Ez : ∀ v : World, Calls Tryz.prog 51 #[.string P2] v fun e w' => e = .returned (.string n) ∧ w' = v)
    (Eg : ∀ v : World, Calls Tryz.prog 54 #[.string n, .string M] v fun e w' => e = .returned (.string G) ∧ Below v.heap.size v w')
    (Ed : ∀ v : World, Calls Tryz.prog 55 #[.string n, .string G] v fun e w' => e = .returned (.tuple #[.string n2, .string r1]) ∧ Below v.heap.size v w')
    (Ef : ∀ v : World, Calls Tryz.prog 55 #[.string M, .string G] v fun e w' => e = .returned (.tuple #[.string q2, .string r2]) ∧ Below v.heap.size v w')
    (Et : ∀ v : World, Calls Tryz.prog 52 #[.string P2] v fun e w' => e = .returned (.int .i64 s) ∧ w' = v) (hs : s < 0) (hl : n2.size ≤ 50000) :
    Calls Tryz.prog 42 #[.string P, .string Q] w fun e w' => e = .returned (.agg #[.string (⟨#[45]⟩ ++ n2), .string q2]) ∧ Below w.heap.size w w' := by
  go_enter Tryz.func42, Tryz.ntmps42
  go_wp2_with fail
  refine (Es _).mono ?_
  rintro e u ⟨rfl, rfl⟩
  go_wp2_with fail
  refine (En _).mono ?_
  rintro e u ⟨rfl, rfl⟩
  go_wp2_with fail
  refine (Em _).mono ?_
  rintro e u ⟨rfl, rfl⟩
  go_wp2_with fail
  refine (Ez _).mono ?_
  rintro e u ⟨rfl, rfl⟩
  go_wp2_with fail
  refine (Eg _).mono ?_
  rintro e v1 ⟨rfl, k1⟩
  go_wp2_with fail
  refine (Ed _).mono ?_
  rintro e v2 ⟨rfl, k2⟩
  go_wp2_with fail
  refine (Ef _).mono ?_
  rintro e v3 ⟨rfl, k3⟩
  go_wp2_with fail
  refine (Et _).mono ?_
  rintro e u ⟨rfl, rfl⟩
  obtain ⟨o1, o2, o3⟩ := own1 (bl_trans (bl_trans k1 k2) k3)
  have c0 := o1 0
  have c1 := o1 1
  have f0 := o2 0
  have f1 := o2 1
  have HB : Hid _ := o3
  clear o1 o2 o3 k1 k2 k3
  simp at c0 c1
  go_wp2
  refine bodyPost_ret (v := .agg #[.string (⟨#[45]⟩ ++ n2), .string q2]) (by simp [results, Tryz.results42, go_sem, c0, c1]) rfl ⟨rfl, ?_⟩
  repeat' (first | exact HB.out | apply bl_drew | refine Below.setCell ?_ (by simp) _)

/-- lowest terms -/
theorem low_W (p q : Int) (w : World) (hp : tl p.natAbs ≤ 20000) (hq : tl q.natAbs ≤ 20000) (h0 : q ≠ 0) :
    Calls Tryz.prog 42 #[.string (W p), .string (W q)] w fun e w' => e = .returned (fr (by' p q)) ∧ Below w.heap.size w w' := by
  have hq0 : q.natAbs ≠ 0 := by omega
  obtain ⟨g, hg⟩ : ∃ g, g = p.natAbs.gcd q.natAbs := ⟨_, rfl⟩
  have g0 : 0 < g := by rw [hg]; exact gcd_pos' hq0
  have gp : g ∣ p.natAbs := by rw [hg]; exact Nat.gcd_dvd_left _ _
  have gq : g ∣ q.natAbs := by rw [hg]; exact Nat.gcd_dvd_right _ _
  have tg : tl g ≤ 20000 := Nat.le_trans (tl_mono (Nat.le_of_dvd (by omega) gq)) hq
  have tn : tl (p.natAbs / g) ≤ 20000 := Nat.le_trans (tl_mono (Nat.div_le_self _ _)) hp
  have Eg : ∀ v : World, Calls Tryz.prog 54 #[.string (S p.natAbs), .string (S q.natAbs)] v fun e w' => e = .returned (.string (S g)) ∧ Below v.heap.size v w' := fun v => by rw [hg]; exact refGcd_any _ _ v hp hq
  have Ed := fun v => refDiv_any p.natAbs g v (by omega) (by omega) g0
  have Ef := fun v => refDiv_any q.natAbs g v (by omega) (by omega) g0
  have sn : (S (p.natAbs / g)).size ≤ 50000 := by rw [S_size]; omega
  have low := by_low (p := p) h0
  have key : ∀ z : Int, z.natAbs = p.natAbs → (by' p q) = Rat.normalize z q.natAbs hq0 → (by' p q).num = vl (decide (z < 0)) (p.natAbs / g) ∧ (by' p q).den = q.natAbs / g := by
    intro z hz e
    rw [e, low_vl, low_den, hz, ← hg]; exact ⟨rfl, rfl⟩
  have Ez := fun (z : Int) (hz : z.natAbs = p.natAbs) (v : World) => refSize_any (W z) v (by have := W_size z; rw [hz] at this; omega)
  have fin : ∀ z : Int, z.natAbs = p.natAbs → (by' p q) = Rat.normalize z q.natAbs hq0 → fr (by' p q) = .agg #[.string (if z < 0 then ⟨#[45]⟩ ++ S (p.natAbs / g) else S (p.natAbs / g)), .string (S (q.natAbs / g))] := by
    intro z hz e
    obtain ⟨k1, k2⟩ := key z hz e
    unfold fr
    rw [k1, k2]
    by_cases h : z < 0
    · rw [if_pos h, decide_eq_true h, W_neg (Nat.div_pos (Nat.le_of_dvd (by omega) gp) g0)]
    · rw [if_neg h, decide_eq_false h, W_pos]
  by_cases hn : q < 0
  · rw [if_pos hn] at low
    have e := fin (-p) (by omega) low
    have Es : ∀ v : World, Calls Tryz.prog 52 #[.string (W q)] v fun e w' => e = .returned (.int .i64 (-1)) ∧ w' = v := fun v => by
      have := refSign_W q v (by omega); rw [Int.sign_eq_neg_one_of_neg hn] at this; exact this
    have En := fun v => refNeg_W p v (by omega)
    have Em : ∀ v : World, Calls Tryz.prog 53 #[.string (W q)] v fun e w' => e = .returned (.string (S q.natAbs)) ∧ w' = v := fun v => by
      have := refNeg_W q v (by omega)
      rw [W_nn (show ¬ (-q) < 0 by omega), Int.natAbs_neg] at this; exact this
    have Ez' : ∀ v : World, Calls Tryz.prog 51 #[.string (W (-p))] v fun e w' => e = .returned (.string (S p.natAbs)) ∧ w' = v := fun v => by
      have := Ez (-p) (by omega) v; rw [sz_W, Int.natAbs_neg] at this; exact this
    have Et := fun v => refSign_W (-p) v (by rw [Int.natAbs_neg]; omega)
    rw [e]
    by_cases hm : -p < 0
    · rw [if_pos hm]
      exact low_nn (W p) (W q) (W (-p)) (S q.natAbs) (S p.natAbs) (S g) (S (p.natAbs / g)) (S (q.natAbs / g)) _ _ _ w Es En Em Ez' Eg Ed Ef Et ((sn_lt _).2 hm) sn
    · rw [if_neg hm]
      exact low_np (W p) (W q) (W (-p)) (S q.natAbs) (S p.natAbs) (S g) (S (p.natAbs / g)) (S (q.natAbs / g)) _ _ _ w Es En Em Ez' Eg Ed Ef Et (fun h => hm ((sn_lt _).1 h))
  · rw [if_neg hn] at low
    have e := fin p rfl low
    have eq : W q = S q.natAbs := W_nn hn
    have Es : ∀ v : World, Calls Tryz.prog 52 #[.string (S q.natAbs)] v fun e w' => e = .returned (.int .i64 1) ∧ w' = v := fun v => by
      have := refSign_W q v (by omega); rw [Int.sign_eq_one_of_pos (by omega), eq] at this; exact this
    have Ez' : ∀ v : World, Calls Tryz.prog 51 #[.string (W p)] v fun e w' => e = .returned (.string (S p.natAbs)) ∧ w' = v := fun v => by
      have := Ez p rfl v; rw [sz_W] at this; exact this
    have Et := fun v => refSign_W p v (by omega)
    rw [e, eq]
    by_cases hm : p < 0
    · rw [if_pos hm]
      exact low_pn (W p) (S q.natAbs) (S p.natAbs) (S g) (S (p.natAbs / g)) (S (q.natAbs / g)) _ _ _ w Es Ez' Eg Ed Ef Et ((sn_lt _).2 hm) sn
    · rw [if_neg hm]
      exact low_pp (W p) (S q.natAbs) (S p.natAbs) (S g) (S (p.natAbs / g)) (S (q.natAbs / g)) _ _ _ w Es Ez' Eg Ed Ef Et (fun h => hm ((sn_lt _).1 h))

set_option maxHeartbeats 1000000 in
theorem rtext_one (X : ByteArray) (w : World) (h1 : X.size ≤ 1000000) :
    Calls Tryz.prog 43 #[.agg #[.string X, .string ⟨#[49]⟩]] w fun e w' => e = .returned (.string X) ∧ w' = w.alloc (.cells #[.string X, .string ⟨#[49]⟩] 59) := by
  go_enter Tryz.func43, Tryz.ntmps43
  go_wp2
  go_ret
  exact ⟨rfl, rfl⟩
set_option maxHeartbeats 1000000 in
theorem rtext_more (X Y : ByteArray) (w : World) (h1 : X.size ≤ 1000000) (h2 : Y.size ≤ 1000000) (hq : (Y.toList == [49]) = false) :
    Calls Tryz.prog 43 #[.agg #[.string X, .string Y]] w fun e w' => e = .returned (.string (X ++ ⟨#[47]⟩ ++ Y)) ∧ w' = w.alloc (.cells #[.string X, .string Y] 59) := by
  go_enter Tryz.func43, Tryz.ntmps43
  go_wp2
  go_ret
  exact ⟨rfl, rfl⟩
theorem rtext_R (r : Rat) (w : World) (hr : Bd r 500000) :
    Calls Tryz.prog 43 #[fr r] w fun e w' => e = .returned (.string (R r)) ∧ w' = w.alloc (.cells #[.string (W r.num), .string (S r.den)] 59) := by
  have h1 : (W r.num).size ≤ 1000000 := by have := W_size r.num; have := hr.1; omega
  have h2 : (S r.den).size ≤ 1000000 := by rw [S_size]; have := hr.2; omega
  by_cases h : r.den = 1
  · have k := rtext_one (W r.num) w h1
    show Calls Tryz.prog 43 #[.agg #[.string (W r.num), .string (S r.den)]] w fun e w' => e = .returned (.string (R r)) ∧ w' = w.alloc (.cells #[.string (W r.num), .string (S r.den)] 59)
    rw [R_one h, h, S1]; exact k
  · have k := rtext_more (W r.num) (S r.den) w h1 h2 (is1 h)
    show Calls Tryz.prog 43 #[.agg #[.string (W r.num), .string (S r.den)]] w fun e w' => e = .returned (.string (R r)) ∧ w' = w.alloc (.cells #[.string (W r.num), .string (S r.den)] 59)
    rw [show R r = W r.num ++ ⟨#[47]⟩ ++ S r.den by unfold R; rw [if_neg h]]; exact k

theorem Bd.pow {{a : Rat}} {{n : Nat}} (h : Bd a n) (h1 : 1 ≤ n) (k : Nat) : Bd (a ^ k) (k * n + 1) :=
  ⟨by rw [Rat.num_pow, Int.natAbs_pow]; exact tl_pow _ k n h.1 h1, by rw [Rat.den_pow]; exact tl_pow _ k n h.2 h1⟩
end
end Go.Proofs.YtadgnafafdfioaaGreatDoor
namespace Go.Proofs.YtadgnafafdfioaaGreatDoor
section
set_option maxRecDepth 100000
open Go.RowKit Nm
set_option linter.unusedVariables false

/-- where the first stroke stands, from a place on -/
def spot (s : ByteArray) (k : Nat) : Nat := k + (ahead (s.data.toList.drop k)).length
theorem spot_end (s : ByteArray) : spot s s.size = s.size := by
  unfold spot
  rw [List.drop_of_length_le (by rw [len_data]; exact Nat.le_refl _)]; rfl
theorem at_data (s : ByteArray) (k : Nat) (h : k < s.size) : s.data.toList.drop k = s[k] :: s.data.toList.drop (k + 1) := by
  have hl : k < s.data.toList.length := by rw [len_data]; exact h
  rw [List.drop_eq_getElem_cons hl]
  congr 1
theorem spot_yes (s : ByteArray) (k : Nat) (h : k < s.size) (e : s[k].toNat = 47) : spot s k = k := by
  unfold spot ahead
  rw [at_data s k h, List.takeWhile_cons]
  have : s[k] = 47 := UInt8.toNat.inj e
  simp [this]
theorem spot_no (s : ByteArray) (k : Nat) (h : k < s.size) (e : s[k].toNat ≠ 47) : spot s k = spot s (k + 1) := by
  unfold spot ahead
  rw [at_data s k h, List.takeWhile_cons]
  have : (s[k] == 47) = false := by
    apply beq_eq_false_iff_ne.2
    intro c; apply e; rw [c]; rfl
  simp [this]
  omega
theorem spot_le (s : ByteArray) (k : Nat) (h : k ≤ s.size) : spot s k ≤ s.size := by
  unfold spot ahead
  have := (List.takeWhile_sublist (l := s.data.toList.drop k) (fun c => !(c == 47))).length_le
  rw [List.length_drop, len_data] at this
  omega
theorem all_of (s : ByteArray) : s.extract 0 s.size = s := ba_ext (by
  rw [ByteArray.data_extract, Array.toList_extract, List.extract_eq_take_drop, List.drop_zero]
  exact List.take_of_length_le (by rw [len_data]; omega))

set_option maxHeartbeats 8000000 in
/-- no stroke, no whole number -/
theorem read_1 (s : ByteArray) (w : World) (hs : s.size ≤ 200000) (hA : spot s 0 = s.size)
    (Ep : ∀ v : World, Calls Tryz.prog 40 #[.string s] v fun e w' => e = .returned (.bool false) ∧ w' = v) :
    Calls Tryz.prog 28 #[.string s] w fun e w' => e = .returned (.tuple #[none2, .bool false]) ∧ Below w.heap.size w w' := by
  have HB0 : Hid (Below w.heap.size w (w.alloc (.cells #[.string ⟨#[]⟩, .string ⟨#[]⟩] 59))) := bl_alloc (Below.refl _ w) _
  go_enter Tryz.func28, Tryz.ntmps28
  go_wp2_with fail
  go_loop [4, 5] (fun x i => ∃ k : Nat, k ≤ s.size ∧ i = .int .i64 ((k : Int) - 1) ∧ x = .int .i64 ((spot s k : Nat) : Int)) (fun _ i => (intOf i + 1).toNat)
  case atStart => exact ⟨s.size, Nat.le_refl _, by go_num, by rw [spot_end]; try go_num⟩
  case round =>
    obtain ⟨k, hk, rfl, rfl⟩ := hrel
    by_cases h0 : k = 0
    · subst h0
      rw [hA]
      have hz : s.extract 0 s.size = s := all_of s
      go_wp2_with fail
      refine (Ep _).mono ?_
      rintro e u ⟨rfl, rfl⟩
      go_wp2
      refine bodyPost_ret (v := .tuple #[none2, .bool false]) (by simp [results, Tryz.results28, go_sem]) rfl ⟨rfl, ?_⟩
      repeat' (first | exact HB0.out | apply bl_drew | refine Below.setCell ?_ (by simp) _)
    · obtain ⟨j, rfl⟩ : ∃ j, k = j + 1 := ⟨k - 1, by omega⟩
      have hj : j < s.size := by omega
      have hji : ((j : Int) < (s.size : Int)) := by omega
      have e1 : ((j + 1 : Nat) : Int) - 1 = (j : Int) := by omega
      rw [e1]
      by_cases hc : s[j].toNat = 47
      · have HS : Hid _ := spot_yes s j hj hc
        have hq : (((s[j].toNat : Nat) : Int) == 47) = true := by rw [hc]; rfl
        go_wp2
        go_round
        case rel => exact ⟨j, by omega, by go_num, by rw [HS.out]⟩
        case measure => simp [intOf]
      · have HS : Hid _ := spot_no s j hj hc
        have hq : (((s[j].toNat : Nat) : Int) == 47) = false := beq_eq_false_iff_ne.2 (by omega)
        generalize spot s (j + 1) = z at *
        go_wp2
        go_round
        case rel => exact ⟨j, by omega, by go_num, by rw [HS.out]⟩
        case measure => simp [intOf]

set_option maxHeartbeats 8000000 in
/-- a whole number -/
theorem read_2 (s D1 D2 Z : ByteArray) (w : World) (hs : s.size ≤ 200000) (hA : spot s 0 = s.size)
    (Ep : ∀ v : World, Calls Tryz.prog 40 #[.string s] v fun e w' => e = .returned (.bool true) ∧ w' = v)
    (Eq : ∀ v : World, Calls Tryz.prog 41 #[.string ⟨#[49]⟩] v fun e w' => e = .returned (.bool true) ∧ w' = v)
    (El : ∀ v : World, Calls Tryz.prog 42 #[.string s, .string ⟨#[49]⟩] v fun e w' => e = .returned (.agg #[.string D1, .string D2]) ∧ Below v.heap.size v w')
    (Et : ∀ v : World, Calls Tryz.prog 43 #[.agg #[.string D1, .string D2]] v fun e w' => e = .returned (.string Z) ∧ w' = v.alloc (.cells #[.string D1, .string D2] 59)) :
    Calls Tryz.prog 28 #[.string s] w fun e w' => e = .returned (.tuple #[.agg #[.string D1, .string D2], .bool (Z.toList == s.toList)]) ∧ Below w.heap.size w w' := by
  have HB0 : Hid (Below w.heap.size w (w.alloc (.cells #[.string ⟨#[]⟩, .string ⟨#[]⟩] 59))) := bl_alloc (Below.refl _ w) _
  go_enter Tryz.func28, Tryz.ntmps28
  go_wp2_with fail
  go_loop [4, 5] (fun x i => ∃ k : Nat, k ≤ s.size ∧ i = .int .i64 ((k : Int) - 1) ∧ x = .int .i64 ((spot s k : Nat) : Int)) (fun _ i => (intOf i + 1).toNat)
  case atStart => exact ⟨s.size, Nat.le_refl _, by go_num, by rw [spot_end]; try go_num⟩
  case round =>
    obtain ⟨k, hk, rfl, rfl⟩ := hrel
    by_cases h0 : k = 0
    · subst h0
      rw [hA]
      have hz : s.extract 0 s.size = s := all_of s
      go_wp2_with fail
      refine (Ep _).mono ?_
      rintro e u ⟨rfl, rfl⟩
      go_wp2_with fail
      refine (Eq _).mono ?_
      rintro e u ⟨rfl, rfl⟩
      go_wp2_with fail
      refine (El _).mono ?_
      rintro e v1 ⟨rfl, k1⟩
      obtain ⟨o1, o2, o3⟩ := own1 k1
      have s1 : w.heap.size < v1.heap.size := by have := k1.size; simp at this; omega
      obtain ⟨V, hV⟩ : ∃ V, V = v1.alloc (.cells #[.string D1, .string D2] 59) := ⟨_, rfl⟩
      have hVs : V.heap.size = v1.heap.size + 1 := by subst hV; simp
      have b0 : V.cell? ⟨w.heap.size, 0, none⟩ = some (.string ⟨#[]⟩) := by rw [hV, World.cell?_alloc_lt _ _ ⟨w.heap.size, 0, none⟩ s1]; exact o1 0
      have b1 : V.cell? ⟨w.heap.size, 1, none⟩ = some (.string ⟨#[]⟩) := by rw [hV, World.cell?_alloc_lt _ _ ⟨w.heap.size, 1, none⟩ s1]; exact o1 1
      have f0 : V.frozen? ⟨w.heap.size, 0, none⟩ = false := by rw [hV, World.frozen?_alloc_old _ _ ⟨w.heap.size, 0, none⟩ (Nat.ne_of_lt s1)]; exact o2 0
      have f1 : V.frozen? ⟨w.heap.size, 1, none⟩ = false := by rw [hV, World.frozen?_alloc_old _ _ ⟨w.heap.size, 1, none⟩ (Nat.ne_of_lt s1)]; exact o2 1
      have d0 : (V.alloc (.cells #[.string D1, .string D2] 59)).cell? ⟨w.heap.size, 0, none⟩ = some (.string ⟨#[]⟩) := by rw [World.cell?_alloc_lt _ _ ⟨w.heap.size, 0, none⟩ (show w.heap.size < V.heap.size by omega)]; exact b0
      have d1 : (V.alloc (.cells #[.string D1, .string D2] 59)).cell? ⟨w.heap.size, 1, none⟩ = some (.string ⟨#[]⟩) := by rw [World.cell?_alloc_lt _ _ ⟨w.heap.size, 1, none⟩ (show w.heap.size < V.heap.size by omega)]; exact b1
      have g0 : (V.alloc (.cells #[.string D1, .string D2] 59)).frozen? ⟨w.heap.size, 0, none⟩ = false := by rw [World.frozen?_alloc_old _ _ ⟨w.heap.size, 0, none⟩ (show w.heap.size ≠ V.heap.size by omega)]; exact f0
      have g1 : (V.alloc (.cells #[.string D1, .string D2] 59)).frozen? ⟨w.heap.size, 1, none⟩ = false := by rw [World.frozen?_alloc_old _ _ ⟨w.heap.size, 1, none⟩ (show w.heap.size ≠ V.heap.size by omega)]; exact f1
      have e0 : (V.drew.alloc (.cells #[.string D1, .string D2] 59)).cell? ⟨w.heap.size, 0, none⟩ = some (.string ⟨#[]⟩) := d0
      have e1 : (V.drew.alloc (.cells #[.string D1, .string D2] 59)).cell? ⟨w.heap.size, 1, none⟩ = some (.string ⟨#[]⟩) := d1
      have h0 : (V.drew.alloc (.cells #[.string D1, .string D2] 59)).frozen? ⟨w.heap.size, 0, none⟩ = false := g0
      have h1 : (V.drew.alloc (.cells #[.string D1, .string D2] 59)).frozen? ⟨w.heap.size, 1, none⟩ = false := g1
      have q0 : ((V.setCell ⟨w.heap.size, 0, none⟩ (.string D1)).setCell ⟨w.heap.size, 1, none⟩ (.string D2)).cell? ⟨v1.heap.size, 0, none⟩ = some (.string D1) := by
        rw [World.cell?_setCell_other _ _ _ _ (by intro h; injection h with h1; omega), World.cell?_setCell_other _ _ _ _ (by intro h; injection h with h1; omega), hV]; simp
      have q1 : ((V.setCell ⟨w.heap.size, 0, none⟩ (.string D1)).setCell ⟨w.heap.size, 1, none⟩ (.string D2)).cell? ⟨v1.heap.size, 1, none⟩ = some (.string D2) := by
        rw [World.cell?_setCell_other _ _ _ _ (by intro h; injection h with h1; omega), World.cell?_setCell_other _ _ _ _ (by intro h; injection h with h1; omega), hV]; simp
      have HB : Hid (Below w.heap.size w V) := by subst hV; exact bl_alloc o3 _
      clear o1 o2 o3 k1 hVs s1
      subst hV
      go_wp2_with fail
      go_region_with (first | (go_at_call 43; refine (Et _).mono ?_; rintro e u ⟨rfl, rfl⟩))
      all_goals go_wp2
      all_goals refine bodyPost_ret (v := .tuple #[.agg #[.string D1, .string D2], .bool (Z.toList == s.toList)]) (by simp [results, Tryz.results28, go_sem, d0, d1]) rfl ⟨rfl, ?_⟩
      all_goals repeat' (first | exact HB.out | apply bl_alloc | apply bl_drew | refine Below.setCell ?_ (by simp) _)
    · obtain ⟨j, rfl⟩ : ∃ j, k = j + 1 := ⟨k - 1, by omega⟩
      have hj : j < s.size := by omega
      have hji : ((j : Int) < (s.size : Int)) := by omega
      have e1 : ((j + 1 : Nat) : Int) - 1 = (j : Int) := by omega
      rw [e1]
      by_cases hc : s[j].toNat = 47
      · have HS : Hid _ := spot_yes s j hj hc
        have hq : (((s[j].toNat : Nat) : Int) == 47) = true := by rw [hc]; rfl
        go_wp2
        go_round
        case rel => exact ⟨j, by omega, by go_num, by rw [HS.out]⟩
        case measure => simp [intOf]
      · have HS : Hid _ := spot_no s j hj hc
        have hq : (((s[j].toNat : Nat) : Int) == 47) = false := beq_eq_false_iff_ne.2 (by omega)
        generalize spot s (j + 1) = z at *
        go_wp2
        go_round
        case rel => exact ⟨j, by omega, by go_num, by rw [HS.out]⟩
        case measure => simp [intOf]

set_option maxHeartbeats 8000000 in
/-- no whole number ahead of the stroke -/
theorem read_3 (s P Q : ByteArray) (w : World) (hs : s.size ≤ 200000) (A : Nat) (hA : spot s 0 = A) (hl : A < s.size) (hP : s.extract 0 A = P) (hQ : s.extract (A + 1) s.size = Q)
    (Ep : ∀ v : World, Calls Tryz.prog 40 #[.string P] v fun e w' => e = .returned (.bool false) ∧ w' = v) :
    Calls Tryz.prog 28 #[.string s] w fun e w' => e = .returned (.tuple #[none2, .bool false]) ∧ Below w.heap.size w w' := by
  have HB0 : Hid (Below w.heap.size w (w.alloc (.cells #[.string ⟨#[]⟩, .string ⟨#[]⟩] 59))) := bl_alloc (Below.refl _ w) _
  go_enter Tryz.func28, Tryz.ntmps28
  go_wp2_with fail
  go_loop [4, 5] (fun x i => ∃ k : Nat, k ≤ s.size ∧ i = .int .i64 ((k : Int) - 1) ∧ x = .int .i64 ((spot s k : Nat) : Int)) (fun _ i => (intOf i + 1).toNat)
  case atStart => exact ⟨s.size, Nat.le_refl _, by go_num, by rw [spot_end]; try go_num⟩
  case round =>
    obtain ⟨k, hk, rfl, rfl⟩ := hrel
    by_cases h0 : k = 0
    · subst h0
      rw [hA]
      have hli : ((A : Int) < (s.size : Int)) := by omega
      go_wp2_with fail
      refine (Ep _).mono ?_
      rintro e u ⟨rfl, rfl⟩
      go_wp2
      refine bodyPost_ret (v := .tuple #[none2, .bool false]) (by simp [results, Tryz.results28, go_sem]) rfl ⟨rfl, ?_⟩
      repeat' (first | exact HB0.out | apply bl_drew | refine Below.setCell ?_ (by simp) _)
    · obtain ⟨j, rfl⟩ : ∃ j, k = j + 1 := ⟨k - 1, by omega⟩
      have hj : j < s.size := by omega
      have hji : ((j : Int) < (s.size : Int)) := by omega
      have e1 : ((j + 1 : Nat) : Int) - 1 = (j : Int) := by omega
      rw [e1]
      by_cases hc : s[j].toNat = 47
      · have HS : Hid _ := spot_yes s j hj hc
        have hq : (((s[j].toNat : Nat) : Int) == 47) = true := by rw [hc]; rfl
        go_wp2
        go_round
        case rel => exact ⟨j, by omega, by go_num, by rw [HS.out]⟩
        case measure => simp [intOf]
      · have HS : Hid _ := spot_no s j hj hc
        have hq : (((s[j].toNat : Nat) : Int) == 47) = false := beq_eq_false_iff_ne.2 (by omega)
        generalize spot s (j + 1) = z at *
        go_wp2
        go_round
        case rel => exact ⟨j, by omega, by go_num, by rw [HS.out]⟩
        case measure => simp [intOf]

set_option maxHeartbeats 8000000 in
/-- no natural behind the stroke -/
theorem read_4 (s P Q : ByteArray) (w : World) (hs : s.size ≤ 200000) (A : Nat) (hA : spot s 0 = A) (hl : A < s.size) (hP : s.extract 0 A = P) (hQ : s.extract (A + 1) s.size = Q)
    (Ep : ∀ v : World, Calls Tryz.prog 40 #[.string P] v fun e w' => e = .returned (.bool true) ∧ w' = v)
    (Eq : ∀ v : World, Calls Tryz.prog 41 #[.string Q] v fun e w' => e = .returned (.bool false) ∧ w' = v) :
    Calls Tryz.prog 28 #[.string s] w fun e w' => e = .returned (.tuple #[none2, .bool false]) ∧ Below w.heap.size w w' := by
  have HB0 : Hid (Below w.heap.size w (w.alloc (.cells #[.string ⟨#[]⟩, .string ⟨#[]⟩] 59))) := bl_alloc (Below.refl _ w) _
  go_enter Tryz.func28, Tryz.ntmps28
  go_wp2_with fail
  go_loop [4, 5] (fun x i => ∃ k : Nat, k ≤ s.size ∧ i = .int .i64 ((k : Int) - 1) ∧ x = .int .i64 ((spot s k : Nat) : Int)) (fun _ i => (intOf i + 1).toNat)
  case atStart => exact ⟨s.size, Nat.le_refl _, by go_num, by rw [spot_end]; try go_num⟩
  case round =>
    obtain ⟨k, hk, rfl, rfl⟩ := hrel
    by_cases h0 : k = 0
    · subst h0
      rw [hA]
      have hli : ((A : Int) < (s.size : Int)) := by omega
      go_wp2_with fail
      refine (Ep _).mono ?_
      rintro e u ⟨rfl, rfl⟩
      go_wp2_with fail
      refine (Eq _).mono ?_
      rintro e u ⟨rfl, rfl⟩
      go_wp2
      refine bodyPost_ret (v := .tuple #[none2, .bool false]) (by simp [results, Tryz.results28, go_sem]) rfl ⟨rfl, ?_⟩
      repeat' (first | exact HB0.out | apply bl_drew | refine Below.setCell ?_ (by simp) _)
    · obtain ⟨j, rfl⟩ : ∃ j, k = j + 1 := ⟨k - 1, by omega⟩
      have hj : j < s.size := by omega
      have hji : ((j : Int) < (s.size : Int)) := by omega
      have e1 : ((j + 1 : Nat) : Int) - 1 = (j : Int) := by omega
      rw [e1]
      by_cases hc : s[j].toNat = 47
      · have HS : Hid _ := spot_yes s j hj hc
        have hq : (((s[j].toNat : Nat) : Int) == 47) = true := by rw [hc]; rfl
        go_wp2
        go_round
        case rel => exact ⟨j, by omega, by go_num, by rw [HS.out]⟩
        case measure => simp [intOf]
      · have HS : Hid _ := spot_no s j hj hc
        have hq : (((s[j].toNat : Nat) : Int) == 47) = false := beq_eq_false_iff_ne.2 (by omega)
        generalize spot s (j + 1) = z at *
        go_wp2
        go_round
        case rel => exact ⟨j, by omega, by go_num, by rw [HS.out]⟩
        case measure => simp [intOf]

set_option maxHeartbeats 8000000 in
/-- 0 behind the stroke -/
theorem read_5 (s P Q : ByteArray) (w : World) (hs : s.size ≤ 200000) (A : Nat) (hA : spot s 0 = A) (hl : A < s.size) (hP : s.extract 0 A = P) (hQ : s.extract (A + 1) s.size = Q)
    (Ep : ∀ v : World, Calls Tryz.prog 40 #[.string P] v fun e w' => e = .returned (.bool true) ∧ w' = v)
    (Eq : ∀ v : World, Calls Tryz.prog 41 #[.string Q] v fun e w' => e = .returned (.bool true) ∧ w' = v) (h5 : (Q.toList == [48]) = true) :
    Calls Tryz.prog 28 #[.string s] w fun e w' => e = .returned (.tuple #[none2, .bool false]) ∧ Below w.heap.size w w' := by
  have HB0 : Hid (Below w.heap.size w (w.alloc (.cells #[.string ⟨#[]⟩, .string ⟨#[]⟩] 59))) := bl_alloc (Below.refl _ w) _
  go_enter Tryz.func28, Tryz.ntmps28
  go_wp2_with fail
  go_loop [4, 5] (fun x i => ∃ k : Nat, k ≤ s.size ∧ i = .int .i64 ((k : Int) - 1) ∧ x = .int .i64 ((spot s k : Nat) : Int)) (fun _ i => (intOf i + 1).toNat)
  case atStart => exact ⟨s.size, Nat.le_refl _, by go_num, by rw [spot_end]; try go_num⟩
  case round =>
    obtain ⟨k, hk, rfl, rfl⟩ := hrel
    by_cases h0 : k = 0
    · subst h0
      rw [hA]
      have hli : ((A : Int) < (s.size : Int)) := by omega
      go_wp2_with fail
      refine (Ep _).mono ?_
      rintro e u ⟨rfl, rfl⟩
      go_wp2_with fail
      refine (Eq _).mono ?_
      rintro e u ⟨rfl, rfl⟩
      go_wp2
      refine bodyPost_ret (v := .tuple #[none2, .bool false]) (by simp [results, Tryz.results28, go_sem]) rfl ⟨rfl, ?_⟩
      repeat' (first | exact HB0.out | apply bl_drew | refine Below.setCell ?_ (by simp) _)
    · obtain ⟨j, rfl⟩ : ∃ j, k = j + 1 := ⟨k - 1, by omega⟩
      have hj : j < s.size := by omega
      have hji : ((j : Int) < (s.size : Int)) := by omega
      have e1 : ((j + 1 : Nat) : Int) - 1 = (j : Int) := by omega
      rw [e1]
      by_cases hc : s[j].toNat = 47
      · have HS : Hid _ := spot_yes s j hj hc
        have hq : (((s[j].toNat : Nat) : Int) == 47) = true := by rw [hc]; rfl
        go_wp2
        go_round
        case rel => exact ⟨j, by omega, by go_num, by rw [HS.out]⟩
        case measure => simp [intOf]
      · have HS : Hid _ := spot_no s j hj hc
        have hq : (((s[j].toNat : Nat) : Int) == 47) = false := beq_eq_false_iff_ne.2 (by omega)
        generalize spot s (j + 1) = z at *
        go_wp2
        go_round
        case rel => exact ⟨j, by omega, by go_num, by rw [HS.out]⟩
        case measure => simp [intOf]

set_option maxHeartbeats 8000000 in
/-- 1 behind the stroke -/
theorem read_6 (s P Q : ByteArray) (w : World) (hs : s.size ≤ 200000) (A : Nat) (hA : spot s 0 = A) (hl : A < s.size) (hP : s.extract 0 A = P) (hQ : s.extract (A + 1) s.size = Q)
    (Ep : ∀ v : World, Calls Tryz.prog 40 #[.string P] v fun e w' => e = .returned (.bool true) ∧ w' = v)
    (Eq : ∀ v : World, Calls Tryz.prog 41 #[.string Q] v fun e w' => e = .returned (.bool true) ∧ w' = v) (h5 : (Q.toList == [48]) = false) (h6 : (Q.toList == [49]) = true) :
    Calls Tryz.prog 28 #[.string s] w fun e w' => e = .returned (.tuple #[none2, .bool false]) ∧ Below w.heap.size w w' := by
  have HB0 : Hid (Below w.heap.size w (w.alloc (.cells #[.string ⟨#[]⟩, .string ⟨#[]⟩] 59))) := bl_alloc (Below.refl _ w) _
  go_enter Tryz.func28, Tryz.ntmps28
  go_wp2_with fail
  go_loop [4, 5] (fun x i => ∃ k : Nat, k ≤ s.size ∧ i = .int .i64 ((k : Int) - 1) ∧ x = .int .i64 ((spot s k : Nat) : Int)) (fun _ i => (intOf i + 1).toNat)
  case atStart => exact ⟨s.size, Nat.le_refl _, by go_num, by rw [spot_end]; try go_num⟩
  case round =>
    obtain ⟨k, hk, rfl, rfl⟩ := hrel
    by_cases h0 : k = 0
    · subst h0
      rw [hA]
      have hli : ((A : Int) < (s.size : Int)) := by omega
      go_wp2_with fail
      refine (Ep _).mono ?_
      rintro e u ⟨rfl, rfl⟩
      go_wp2_with fail
      refine (Eq _).mono ?_
      rintro e u ⟨rfl, rfl⟩
      go_wp2
      refine bodyPost_ret (v := .tuple #[none2, .bool false]) (by simp [results, Tryz.results28, go_sem]) rfl ⟨rfl, ?_⟩
      repeat' (first | exact HB0.out | apply bl_drew | refine Below.setCell ?_ (by simp) _)
    · obtain ⟨j, rfl⟩ : ∃ j, k = j + 1 := ⟨k - 1, by omega⟩
      have hj : j < s.size := by omega
      have hji : ((j : Int) < (s.size : Int)) := by omega
      have e1 : ((j + 1 : Nat) : Int) - 1 = (j : Int) := by omega
      rw [e1]
      by_cases hc : s[j].toNat = 47
      · have HS : Hid _ := spot_yes s j hj hc
        have hq : (((s[j].toNat : Nat) : Int) == 47) = true := by rw [hc]; rfl
        go_wp2
        go_round
        case rel => exact ⟨j, by omega, by go_num, by rw [HS.out]⟩
        case measure => simp [intOf]
      · have HS : Hid _ := spot_no s j hj hc
        have hq : (((s[j].toNat : Nat) : Int) == 47) = false := beq_eq_false_iff_ne.2 (by omega)
        generalize spot s (j + 1) = z at *
        go_wp2
        go_round
        case rel => exact ⟨j, by omega, by go_num, by rw [HS.out]⟩
        case measure => simp [intOf]

set_option maxHeartbeats 8000000 in
/-- a whole number by a natural above 1 -/
theorem read_7 (s P Q D1 D2 Z : ByteArray) (w : World) (hs : s.size ≤ 200000) (A : Nat) (hA : spot s 0 = A) (hl : A < s.size) (hP : s.extract 0 A = P) (hQ : s.extract (A + 1) s.size = Q)
    (Ep : ∀ v : World, Calls Tryz.prog 40 #[.string P] v fun e w' => e = .returned (.bool true) ∧ w' = v)
    (Eq : ∀ v : World, Calls Tryz.prog 41 #[.string Q] v fun e w' => e = .returned (.bool true) ∧ w' = v) (h5 : (Q.toList == [48]) = false) (h6 : (Q.toList == [49]) = false)
    (El : ∀ v : World, Calls Tryz.prog 42 #[.string P, .string Q] v fun e w' => e = .returned (.agg #[.string D1, .string D2]) ∧ Below v.heap.size v w')
    (Et : ∀ v : World, Calls Tryz.prog 43 #[.agg #[.string D1, .string D2]] v fun e w' => e = .returned (.string Z) ∧ w' = v.alloc (.cells #[.string D1, .string D2] 59)) :
    Calls Tryz.prog 28 #[.string s] w fun e w' => e = .returned (.tuple #[.agg #[.string D1, .string D2], .bool (Z.toList == s.toList)]) ∧ Below w.heap.size w w' := by
  have HB0 : Hid (Below w.heap.size w (w.alloc (.cells #[.string ⟨#[]⟩, .string ⟨#[]⟩] 59))) := bl_alloc (Below.refl _ w) _
  go_enter Tryz.func28, Tryz.ntmps28
  go_wp2_with fail
  go_loop [4, 5] (fun x i => ∃ k : Nat, k ≤ s.size ∧ i = .int .i64 ((k : Int) - 1) ∧ x = .int .i64 ((spot s k : Nat) : Int)) (fun _ i => (intOf i + 1).toNat)
  case atStart => exact ⟨s.size, Nat.le_refl _, by go_num, by rw [spot_end]; try go_num⟩
  case round =>
    obtain ⟨k, hk, rfl, rfl⟩ := hrel
    by_cases h0 : k = 0
    · subst h0
      rw [hA]
      have hli : ((A : Int) < (s.size : Int)) := by omega
      go_wp2_with fail
      refine (Ep _).mono ?_
      rintro e u ⟨rfl, rfl⟩
      go_wp2_with fail
      refine (Eq _).mono ?_
      rintro e u ⟨rfl, rfl⟩
      go_wp2_with fail
      refine (El _).mono ?_
      rintro e v1 ⟨rfl, k1⟩
      obtain ⟨o1, o2, o3⟩ := own1 k1
      have s1 : w.heap.size < v1.heap.size := by have := k1.size; simp at this; omega
      obtain ⟨V, hV⟩ : ∃ V, V = v1.alloc (.cells #[.string D1, .string D2] 59) := ⟨_, rfl⟩
      have hVs : V.heap.size = v1.heap.size + 1 := by subst hV; simp
      have b0 : V.cell? ⟨w.heap.size, 0, none⟩ = some (.string ⟨#[]⟩) := by rw [hV, World.cell?_alloc_lt _ _ ⟨w.heap.size, 0, none⟩ s1]; exact o1 0
      have b1 : V.cell? ⟨w.heap.size, 1, none⟩ = some (.string ⟨#[]⟩) := by rw [hV, World.cell?_alloc_lt _ _ ⟨w.heap.size, 1, none⟩ s1]; exact o1 1
      have f0 : V.frozen? ⟨w.heap.size, 0, none⟩ = false := by rw [hV, World.frozen?_alloc_old _ _ ⟨w.heap.size, 0, none⟩ (Nat.ne_of_lt s1)]; exact o2 0
      have f1 : V.frozen? ⟨w.heap.size, 1, none⟩ = false := by rw [hV, World.frozen?_alloc_old _ _ ⟨w.heap.size, 1, none⟩ (Nat.ne_of_lt s1)]; exact o2 1
      have d0 : (V.alloc (.cells #[.string D1, .string D2] 59)).cell? ⟨w.heap.size, 0, none⟩ = some (.string ⟨#[]⟩) := by rw [World.cell?_alloc_lt _ _ ⟨w.heap.size, 0, none⟩ (show w.heap.size < V.heap.size by omega)]; exact b0
      have d1 : (V.alloc (.cells #[.string D1, .string D2] 59)).cell? ⟨w.heap.size, 1, none⟩ = some (.string ⟨#[]⟩) := by rw [World.cell?_alloc_lt _ _ ⟨w.heap.size, 1, none⟩ (show w.heap.size < V.heap.size by omega)]; exact b1
      have g0 : (V.alloc (.cells #[.string D1, .string D2] 59)).frozen? ⟨w.heap.size, 0, none⟩ = false := by rw [World.frozen?_alloc_old _ _ ⟨w.heap.size, 0, none⟩ (show w.heap.size ≠ V.heap.size by omega)]; exact f0
      have g1 : (V.alloc (.cells #[.string D1, .string D2] 59)).frozen? ⟨w.heap.size, 1, none⟩ = false := by rw [World.frozen?_alloc_old _ _ ⟨w.heap.size, 1, none⟩ (show w.heap.size ≠ V.heap.size by omega)]; exact f1
      have e0 : (V.drew.alloc (.cells #[.string D1, .string D2] 59)).cell? ⟨w.heap.size, 0, none⟩ = some (.string ⟨#[]⟩) := d0
      have e1 : (V.drew.alloc (.cells #[.string D1, .string D2] 59)).cell? ⟨w.heap.size, 1, none⟩ = some (.string ⟨#[]⟩) := d1
      have h0 : (V.drew.alloc (.cells #[.string D1, .string D2] 59)).frozen? ⟨w.heap.size, 0, none⟩ = false := g0
      have h1 : (V.drew.alloc (.cells #[.string D1, .string D2] 59)).frozen? ⟨w.heap.size, 1, none⟩ = false := g1
      have q0 : ((V.setCell ⟨w.heap.size, 0, none⟩ (.string D1)).setCell ⟨w.heap.size, 1, none⟩ (.string D2)).cell? ⟨v1.heap.size, 0, none⟩ = some (.string D1) := by
        rw [World.cell?_setCell_other _ _ _ _ (by intro h; injection h with h1; omega), World.cell?_setCell_other _ _ _ _ (by intro h; injection h with h1; omega), hV]; simp
      have q1 : ((V.setCell ⟨w.heap.size, 0, none⟩ (.string D1)).setCell ⟨w.heap.size, 1, none⟩ (.string D2)).cell? ⟨v1.heap.size, 1, none⟩ = some (.string D2) := by
        rw [World.cell?_setCell_other _ _ _ _ (by intro h; injection h with h1; omega), World.cell?_setCell_other _ _ _ _ (by intro h; injection h with h1; omega), hV]; simp
      have HB : Hid (Below w.heap.size w V) := by subst hV; exact bl_alloc o3 _
      clear o1 o2 o3 k1 hVs s1
      subst hV
      go_wp2_with fail
      go_region_with (first | (go_at_call 43; refine (Et _).mono ?_; rintro e u ⟨rfl, rfl⟩))
      all_goals go_wp2
      all_goals refine bodyPost_ret (v := .tuple #[.agg #[.string D1, .string D2], .bool (Z.toList == s.toList)]) (by simp [results, Tryz.results28, go_sem, d0, d1]) rfl ⟨rfl, ?_⟩
      all_goals repeat' (first | exact HB.out | apply bl_alloc | apply bl_drew | refine Below.setCell ?_ (by simp) _)
    · obtain ⟨j, rfl⟩ : ∃ j, k = j + 1 := ⟨k - 1, by omega⟩
      have hj : j < s.size := by omega
      have hji : ((j : Int) < (s.size : Int)) := by omega
      have e1 : ((j + 1 : Nat) : Int) - 1 = (j : Int) := by omega
      rw [e1]
      by_cases hc : s[j].toNat = 47
      · have HS : Hid _ := spot_yes s j hj hc
        have hq : (((s[j].toNat : Nat) : Int) == 47) = true := by rw [hc]; rfl
        go_wp2
        go_round
        case rel => exact ⟨j, by omega, by go_num, by rw [HS.out]⟩
        case measure => simp [intOf]
      · have HS : Hid _ := spot_no s j hj hc
        have hq : (((s[j].toNat : Nat) : Int) == 47) = false := beq_eq_false_iff_ne.2 (by omega)
        generalize spot s (j + 1) = z at *
        go_wp2
        go_round
        case rel => exact ⟨j, by omega, by go_num, by rw [HS.out]⟩
        case measure => simp [intOf]
end
end Go.Proofs.YtadgnafafdfioaaGreatDoor
namespace Go.Proofs.YtadgnafafdfioaaGreatDoor
section
set_option maxRecDepth 100000
open Go.RowKit Nm
set_option linter.unusedVariables false

theorem by_self (r : Rat) : by' r.num (r.den : Int) = r := by
  have := R_parts r
  unfold by'
  rw [show (((r.den : Int) : Rat)) = (r.den : Rat) from rfl]
  exact this.symm
theorem spot_none {s : ByteArray} (h : stroke s.data.toList = false) : spot s 0 = s.size := by
  unfold spot
  rw [List.drop_zero, ahead_none (none_of h), len_data]; omega
theorem spot_some {s : ByteArray} : spot s 0 = (ahead s.data.toList).length := by
  unfold spot; rw [List.drop_zero]; omega
theorem refOne (v : World) : Calls Tryz.prog 41 #[.string ⟨#[49]⟩] v fun e w' => e = .returned (.bool true) ∧ w' = v :=
  refRight_is ⟨#[49]⟩ true v (by decide) (by decide)
theorem refS (n : Nat) (v : World) (h : tl n ≤ 20000) : Calls Tryz.prog 41 #[.string (S n)] v fun e w' => e = .returned (.bool true) ∧ w' = v :=
  refRight_is (S n) true v (by rw [S_size]; omega) (rt_S n)

theorem Read_R (r : Rat) (w : World) (hr : (R r).size ≤ 20000) :
    Calls Tryz.prog 28 #[.string (R r)] w fun e w' => e = .returned (.tuple #[fr r, .bool true]) ∧ Below w.heap.size w w' := by
  have b := tl_R r
  have El := fun v => low_W r.num (r.den : Int) v (by omega) (by simp only [Int.natAbs_natCast]; omega) (by have := den_gt r; omega)
  rw [by_self, W_nat] at El
  have Et := fun v => rtext_R r v ⟨by omega, by omega⟩
  have hz : ((R r).toList == (R r).toList) = true := beq_self_eq_true _
  by_cases h : r.den = 1
  · have hW := R_one h
    have Ep := fun v => refRightw_is (W r.num) true v (by rw [← hW]; omega) (wh_W _)
    have k := read_2 (R r) (W r.num) (S r.den) (R r) w (by omega) (spot_none (by rw [hW]; exact stroke_none (no47_W _)))
      (by rw [hW]; exact Ep) refOne (by rw [h, S1] at El; rw [hW, h, S1]; unfold fr at El; rw [h, S1] at El; exact El) Et
    rw [hz] at k
    exact k
  · have e := R_more h
    have hst : stroke (R r).data.toList = true := by rw [e]; exact stroke_app _ _
    have hP : bt (ahead (R r).data.toList) = W r.num := by rw [e, ahead_app (no47_W _), bt_of]
    have hQ : bt (behind (R r).data.toList) = S r.den := by rw [e, behind_app (no47_W _), S_bt (rt_tx _), dv_tx]
    have d0 := den_gt r
    have sW : (W r.num).size ≤ 2000000 := by have := W_size r.num; omega
    have k := read_7 (R r) (W r.num) (S r.den) (W r.num) (S r.den) (R r) w (by omega) _ spot_some (by have := ahead_len hst; omega)
      (by rw [cut_front hst, hP]) (by rw [cut_back hst, hQ]) (fun v => refRightw_is (W r.num) true v sW (wh_W _)) (fun v => refS r.den v (by omega))
      (is0 (by omega)) (is1 h) El Et
    rw [hz] at k
    exact k

theorem Read_one (s : ByteArray) (hs : s.size ≤ 20000) (h : ra s = false) :
    ∃ X Y, ∀ w : World, Calls Tryz.prog 28 #[.string s] w fun e w' => e = .returned (.tuple #[.agg #[.string X, .string Y], .bool false]) ∧ Below w.heap.size w w' := by
  have h' := h
  unfold ra at h
  cases h1 : stroke s.data.toList with
  | false =>
    rw [h1] at h
    have hw : wh s = false := by simpa using h
    exact ⟨_, _, fun w => read_1 s w (by omega) (spot_none h1) (fun v => refRightw_is s false v (by omega) hw)⟩
  | true =>
    rw [h1] at h
    simp only [if_true] at h
    have hA := ahead_len h1
    have lA := ahead_le s
    have lB := behind_le s
    cases h2 : wh (bt (ahead s.data.toList)) with
    | false =>
      exact ⟨_, _, fun w => read_3 s _ _ w (by omega) _ spot_some (by omega) (cut_front h1) (cut_back h1) (fun v => refRightw_is _ false v (by omega) h2)⟩
    | true =>
      have Ep := fun v => refRightw_is (bt (ahead s.data.toList)) true v (by omega) h2
      rw [h2, Bool.true_and] at h
      cases h3 : rt (behind s.data.toList) with
      | false =>
        exact ⟨_, _, fun w => read_4 s _ _ w (by omega) _ spot_some (by omega) (cut_front h1) (cut_back h1) Ep (fun v => refRight_is _ false v (by omega) (by rw [bt_data]; exact h3))⟩
      | true =>
        have Eq := fun v => refRight_is (bt (behind s.data.toList)) true v (by omega) (by rw [bt_data]; exact h3)
        rw [h3, Bool.true_and] at h
        have eS := S_bt h3
        have tn : tl (dv (behind s.data.toList)) ≤ 20000 := by rw [eS, S_size] at lB; omega
        generalize hn : dv (behind s.data.toList) = n at *
        by_cases n0 : n = 0
        · exact ⟨_, _, fun w => read_5 s _ _ w (by omega) _ spot_some (by omega) (cut_front h1) (cut_back h1) Ep Eq (by rw [eS, n0]; exact is00)⟩
        · by_cases n1 : n = 1
          · exact ⟨_, _, fun w => read_6 s _ _ w (by omega) _ spot_some (by omega) (cut_front h1) (cut_back h1) Ep Eq (by rw [eS]; exact is0 n0) (by rw [eS, n1, S1, toList_data]; rfl)⟩
          · obtain ⟨z, ez⟩ := W_of h2
            have tz : tl z.natAbs ≤ 20000 := by have := tl_W z; rw [ez] at lA; omega
            have hn0 : (n : Int) ≠ 0 := by omega
            have El := fun v => low_W z (n : Int) v tz (by simp only [Int.natAbs_natCast]; exact tn) hn0
            rw [W_nat, ← eS, ← ez] at El
            have bd : Bd (by' z (n : Int)) 20000 := Bd.by' hn0 tz (by simp only [Int.natAbs_natCast]; exact tn)
            have Et := fun v => rtext_R (by' z (n : Int)) v (bd.mono (by omega))
            have hz : ((R (by' z (n : Int))).toList == s.toList) = false := by
              apply beq_eq_false_iff_ne.2
              intro c
              have : R (by' z (n : Int)) = s := ba_ext (by rw [← toList_data, ← toList_data, c])
              rw [← this, ra_R] at h'
              cases h'
            refine ⟨W (by' z (n : Int)).num, S (by' z (n : Int)).den, fun w => ?_⟩
            have k := read_7 s _ _ _ _ _ w (by omega) _ spot_some (by omega) (cut_front h1) (cut_back h1) Ep Eq (by rw [eS]; exact is0 n0) (by rw [eS]; exact is1 n1) El Et
            rw [hz] at k
            exact k
end
end Go.Proofs.YtadgnafafdfioaaGreatDoor
