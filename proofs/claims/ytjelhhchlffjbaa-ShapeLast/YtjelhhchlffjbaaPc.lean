/-
  WHAT A CALL OF shape.Place GIVES. Conditions: each theorem's own.
-/
import Derived.Test.YtjelhhchlffjbaaOf
namespace Go.Proofs.Ytjelhhchlffjbaa
set_option maxRecDepth 100000
open Go.RowKit
set_option linter.unusedVariables false

/-- naturals, as the program's numbers -/
def ints (s : List Nat) : List Int := s.map fun n => ((n : Nat) : Int)
theorem ints_len (s : List Nat) : (ints s).length = s.length := by simp [ints]
theorem ints_getD (s : List Nat) (i : Nat) : (ints s).getD i 0 = ((s.getD i 0 : Nat) : Int) := by
  simp only [ints, List.getD, List.getElem?_map]
  cases s[i]? <;> rfl
theorem nats_ints (s : List Nat) : nats (ints s) = s := by
  induction s with
  | nil => rfl
  | cons a s ih => exact congrArg (a :: ·) ih
theorem ints_nats {zs : List Int} (h : ∀ z, z ∈ zs → 0 ≤ z) : ints (nats zs) = zs := by
  induction zs with
  | nil => rfl
  | cons a s ih =>
    have e : ints (nats (a :: s)) = ((a.toNat : Nat) : Int) :: ints (nats s) := rfl
    rw [e, ih (fun z hz => h z (List.mem_cons_of_mem _ hz)), Int.toNat_of_nonneg (h a List.mem_cons_self)]
theorem plc_len (s : List Nat) (n : Nat) : (plc s n).length = s.length := by
  induction s generalizing n with
  | nil => rfl
  | cons a s ih => simp [plc, ih]
theorem plc_snoc (s : List Nat) (a n : Nat) (h : n < shz s * a) : plc (s ++ [a]) n = plc s (n / a) ++ [n % a] := by
  induction s generalizing n with
  | nil => simp [shz] at h; simp [plc, shz, Nat.mod_eq_of_lt h]
  | cons b s ih =>
    have hp : 0 < shz s * a := by
      rcases Nat.eq_zero_or_pos (shz s * a) with c | c
      · simp only [shz, Nat.mul_assoc, c] at h; omega
      · exact c
    simp only [List.cons_append, plc]
    rw [shz_snoc, ih _ (Nat.mod_lt _ hp), Nat.mul_comm (shz s) a, Nat.div_div_eq_div_mul, Nat.mod_mul_right_div_self, Nat.mod_mul_right_mod]
theorem nats_len (zs : List Int) : (nats zs).length = zs.length := by simp [nats]
theorem nats_take (zs : List Int) (k : Nat) : (nats zs).take k = nats (zs.take k) := by simp [nats, List.map_take]

def up (f : Nat → Nat) (j v : Nat) : Nat → Nat := fun i => if i = j then v else f i
theorem up_same (f : Nat → Nat) (j v : Nat) : up f j v j = v := by simp [up]
theorem up_other (f : Nat → Nat) {j i : Nat} (v : Nat) (h : i ≠ j) : up f j v i = f i := by simp [up, h]

/-- the first n cells of a block hold these numbers, and may be written -/
structure Ow (w : World) (b : Nat) (f : Nat → Nat) (n : Nat) : Prop where
  cell : ∀ i, i < n → w.cell? ⟨b, i, none⟩ = some (.int .i64 (f i : Nat))
  frz : ∀ i, w.frozen? ⟨b, i, none⟩ = false
  lt : b < w.heap.size
theorem Ow.store {w : World} {b n : Nat} {f : Nat → Nat} (h : Ow w b f n) {j : Nat} (hj : j < n) (v : Nat) : Ow (w.setCell ⟨b, j, none⟩ (.int .i64 (v : Nat))) b (up f j v) n := by
  refine ⟨fun i hi => ?_, fun i => ?_, ?_⟩
  · by_cases e : i = j
    · subst e; rw [World.cell?_setCell_same _ _ _ (h.cell i hi), up_same]
    · rw [World.cell?_setCell_other _ _ _ _ (by intro x; injection x with _ h2; exact e h2.symm), h.cell i hi, up_other f v e]
  · rw [World.frozen?_setCell]; exact h.frz i
  · simpa [World.setCell] using h.lt
theorem Ow.of_own {w : World} {base e n cap g : Nat} (h : w.ownsRow base e 1 (.slice (some ⟨g, 0, none⟩) n cap) n (madeCells #[Value.int .i64 0] n).toList) : Ow w g (fun _ => 0) n := by
  refine ⟨fun i hi => ?_, fun i => h.frozenAt i, (h.lt g rfl).2⟩
  rw [h.cellAt i (by omega), toList_madeCells_one]
  simp [hi]
theorem Ow.sl {w : World} {b : Nat} {f : Nat → Nat} {n : Nat} (h : Ow w b f n) {s : List Nat} (hl : s.length = n) (e : ∀ i, i < n → f i = s.getD i 0) : Sl w (some ⟨b, 0, none⟩) (ints s) := by
  refine Sl.mk fun i hi => ?_
  have hi' : i < n := by rw [ints_len, hl] at hi; exact hi
  rw [Nat.zero_add, h.cell i hi', e i hi', ints_getD]

/-- the place of a count; nothing, if there is none -/
def plcI (ss : List Int) (n : Int) : List Int := if 0 ≤ n ∧ n < szI ss then ints (plc (nats ss) n.toNat) else []

theorem Try.info3 : (Try.prog.info? 3).map (fun i => (i.zero, i.size, i.bytes)) = some (some (.int .i64 0), 1, 8) := by kernel_rfl

set_option maxHeartbeats 1000000 in
theorem place_any (a1 : Option Addr) (ss : List Int) (c1 : Nat) (n : Int) (w : World) (hl1 : ss.length ≤ 1000) (hS : Sl w a1 ss) :
    Calls Try.prog 18 #[.slice a1 ss.length c1, .int .i64 n] w fun e w' => ∃ ao cap, e = .returned (.tuple #[.slice ao (plcI ss n).length cap, .bool (decide (0 ≤ n ∧ n < szI ss))]) ∧ Sl w' ao (plcI ss n) ∧ Below w.heap.size w w' := by
  have hc := size_any a1 ss c1 w hl1 hS
  by_cases h0 : n < 0
  · have e1 : plcI ss n = [] := if_neg fun c => by omega
    have e2 : decide (0 ≤ n ∧ n < szI ss) = false := by simp; omega
    rw [e1, e2]
    clear e1 e2 hS hc
    go_enter Try.func18, Try.ntmps18
    go_wp2
    go_ret2
    exact ⟨none, 0, rfl, Sl.nil _ _, Below.refl _ _⟩
  by_cases h1 : (szI ss : Int) ≤ n
  · have e1 : plcI ss n = [] := if_neg fun c => by omega
    have e2 : decide (0 ≤ n ∧ n < szI ss) = false := by simp; omega
    rw [e1, e2]
    clear e1 e2 hS
    go_enter Try.func18, Try.ntmps18
    go_wp2_with fail
    refine hc.mono ?_
    rintro e w1 ⟨rfl, rfl⟩
    go_wp2
    go_ret2
    exact ⟨none, 0, rfl, Sl.nil _ _, Below.refl _ _⟩
  obtain ⟨m, rfl⟩ : ∃ m : Nat, n = m := ⟨n.toNat, by omega⟩
  have hr : Rgt ss := (szI_pos ss).1 (by omega)
  have e1 : plcI ss m = ints (plc (nats ss) m) := if_pos ⟨by omega, by omega⟩
  have e2 : decide (0 ≤ (m : Int) ∧ (m : Int) < szI ss) = true := by simp; omega
  rw [e1, e2]
  have h64 := szI_le ss
  have hl4 := hr.out.1
  have HR : Hid (Rgt ss) := hr
  have HS : Hid (Sl w a1 ss) := hS
  obtain ⟨k0, hk0⟩ : ∃ k, ss.length = k := ⟨_, rfl⟩
  have HN : Hid (ss.length = k0) := hk0
  rw [hk0] at hc hl4
  rw [hk0]
  have e3 : (ints (plc (nats ss) m)).length = k0 := by rw [ints_len, plc_len, nats_len, hk0]
  rw [e3]
  clear e1 e2 hr hS hk0 hl1 e3
  obtain ⟨i0, hi, hz0, hz1, hz2⟩ := info_parts Try.info3
  go_enter Try.func18, Try.ntmps18
  go_wp2_with fail
  refine hc.mono ?_
  rintro e w1 ⟨rfl, rfl⟩
  clear hc
  go_wp2_with (first | (at_make; refine wpList_make_full _ rfl _ _ 22 rfl w1.heap.size 3 i0 (.int .i64 0) 1 Try.underlying22 hi hz0 hz1 _ _ _ _ k0 rfl rfl (by omega) (by omega) (by rw [hz2]; omega) (by unfold maxLen; omega) (Nat.le_refl _) ?_))
  intro w2 hown1 hgrow1
  go_wp2_with fail
  have hO1 := Ow.of_own hown1
  have hB1 : Below w1.heap.size w1 w2 := (Below.refl _ _).grown hgrow1 (Nat.le_refl _) (fun k h => by cases h)
  clear hown1 hgrow1
  go_loopw [1, 7] (fun v i wr => ∃ k q o, k ≤ k0 ∧ i = .int .i64 ((k : Int) - 1) ∧ v = .int .i64 (q : Nat) ∧ q ≤ 64 ∧ q < shz (nats (ss.take k)) ∧ Ow wr w1.heap.size o k0 ∧ (∀ j, j < k0 → (plc (nats ss) m).getD j 0 = if j < k then (plc (nats (ss.take k)) q).getD j 0 else o j) ∧ Below w1.heap.size w1 wr) (fun _ i _ => (intOf i + 1).toNat)
  case atStart =>
    refine ⟨k0, m, fun _ => 0, Nat.le_refl _, by go_num, rfl, by omega, ?_, hO1, fun j hj => ?_, hB1⟩
    · rw [List.take_of_length_le (by rw [HN.out]; exact Nat.le_refl _), ← szI_of HR.out]; omega
    · rw [List.take_of_length_le (by rw [HN.out]; exact Nat.le_refl _), if_pos hj]
  case round =>
    obtain ⟨k, q, o, hk, rfl, rfl, hq, hqs, hO, hP, hB⟩ := hrel
    clear hO1 hB1
    have HP : Hid (q < shz (nats (ss.take k)) ∧ ∀ j, j < k0 → (plc (nats ss) m).getD j 0 = if j < k then (plc (nats (ss.take k)) q).getD j 0 else o j) := ⟨hqs, hP⟩
    clear hqs hP
    by_cases h : 0 < k
    · obtain ⟨k, rfl⟩ : ∃ k', k = k' + 1 := ⟨k - 1, by omega⟩
      have hks : k < ss.length := by rw [HN.out]; omega
      obtain ⟨b, off, rfl, hc⟩ := HS.out k hks
      have hb1 : b < w1.heap.size := cell_lt hc
      rw [← hB.cell (p := ⟨b, off + k, none⟩) hb1] at hc
      have hb2 : ¬ b = w1.heap.size := by omega
      have hb3 : ¬ w1.heap.size = b := by omega
      clear hb1
      have h1 := (HR.out.at hks).1
      have h65 : ss.getD k 0 ≤ 64 := by
        have := (HR.out.at hks).2
        have p := (HR.out.pf k).one_le
        have := Nat.le_mul_of_pos_left (ss.getD k 0).toNat p
        omega
      obtain ⟨a, ha⟩ : ∃ a : Nat, ss.getD k 0 = a := ⟨(ss.getD k 0).toNat, by omega⟩
      have HA : Hid (ss.getD k 0 = a ∧ k < ss.length) := ⟨ha, hks⟩
      rw [ha] at hc h1 h65
      clear ha hks
      have ek : ((k + 1 : Nat) : Int) - 1 = (k : Int) := by omega
      rw [ek]
      have hcl := hO.cell k (by omega)
      have hfz := hO.frz k
      have ha0 : ¬ (a : Int) = 0 := by omega
      have et : (q : Int).tmod (a : Int) = ((q % a : Nat) : Int) := by rw [Int.tmod_eq_emod_of_nonneg (by omega)]; rfl
      have ed : (q : Int).tdiv (a : Int) = ((q / a : Nat) : Int) := by rw [Int.tdiv_eq_ediv_of_nonneg (by omega)]; rfl
      obtain ⟨r, hr⟩ : ∃ r, q % a = r := ⟨_, rfl⟩
      obtain ⟨d, hd⟩ : ∃ d, q / a = d := ⟨_, rfl⟩
      have hr2 : r < a := by rw [← hr]; exact Nat.mod_lt _ (by omega)
      have hd2 : d ≤ 64 := by rw [← hd]; exact Nat.le_trans (Nat.div_le_self _ _) hq
      have HD : Hid (q % a = r ∧ q / a = d) := ⟨hr, hd⟩
      rw [hr] at et
      rw [hd] at ed
      clear hr hd
      have hst := hO.store (j := k) (by omega) r
      go_wp2
      go_roundw
      case rel =>
        have e0 : shz (nats (ss.take (k + 1))) = shz (nats (ss.take k)) * a := by
          rw [size_more ss k HA.out.2, HA.out.1]; rfl
        have e1 : nats (ss.take (k + 1)) = nats (ss.take k) ++ [a] := by
          rw [take_more ss k HA.out.2, nats_app, HA.out.1]; rfl
        have e2 := HP.out.1
        rw [e0] at e2
        have e3 : (nats (ss.take k)).length = k := by rw [nats_len, List.length_take]; have := HA.out.2; omega
        refine ⟨k, d, up o k r, by omega, by go_num, by go_num, hd2, ?_, by simpa using hst, fun j hj => ?_, hB.setCell (Nat.le_refl _) _⟩
        · rw [← HD.out.2]; exact Nat.div_lt_of_lt_mul (by rw [Nat.mul_comm]; exact e2)
        · rw [HP.out.2 j hj, e1, plc_snoc _ _ _ e2, HD.out.1, HD.out.2]
          by_cases c1 : j < k
          · rw [if_pos (by omega), if_pos c1]
            simp [List.getD, List.getElem?_append_left (show j < (plc (nats (ss.take k)) d).length by rw [plc_len, e3]; exact c1)]
          · rw [if_neg c1]
            by_cases c2 : j = k
            · subst c2
              rw [if_pos (by omega), up_same]
              simp [List.getD, plc_len, e3]
            · rw [if_neg (by omega), up_other _ _ c2]
      case measure => simp [intOf]
    · obtain rfl : k = 0 := by omega
      go_wp2
      go_ret2
      exact ⟨some ⟨w1.heap.size, 0, none⟩, k0, rfl, hO.sl (by rw [plc_len, nats_len, HN.out]) (fun i hi => by have := HP.out.2 i hi; simpa using this.symm), hB⟩
end Go.Proofs.Ytjelhhchlffjbaa
