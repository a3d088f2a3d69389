/-
  TEXTS TO LIMBS AND BACK; sums and differences. Conditions: each theorem's own.
-/
import Derived.Test.YtadgnafafdfioaaGreatDoorLeaf
import Derived.Lib.Strings
import Derived.Laws.BytesArg
import Derived.Deep.RegionWith
namespace Go.Proofs.YtadgnafafdfioaaGreatDoor
section
set_option maxRecDepth 100000
open Go.RowKit Nm
set_option linter.unusedVariables false

/-- the row behind the last 9 - j digits of a limb -/
def wl (f : Nat → Nat) (off z j : Nat) : Nat → Nat := fun i => if off + j ≤ i ∧ i < off + 9 then 48 + z / 10 ^ (off + 8 - i) % 10 else f i

theorem wl_step (f : Nat → Nat) (off z m i : Nat) (hm : m < 9) : up (wl f off z (m + 1)) (off + m) (48 + z / 10 ^ (8 - m) % 10) i = wl f off z m i := by
  unfold up wl
  by_cases e : i = off + m
  · subst e
    rw [if_pos rfl, if_pos (by omega)]
    rw [show off + 8 - (off + m) = 8 - m by omega]
  · rw [if_neg e]
    by_cases c : off + (m + 1) ≤ i ∧ i < off + 9
    · rw [if_pos c, if_pos (by omega)]
    · rw [if_neg c, if_neg (by omega)]

theorem div_step (z m : Nat) (hm : m < 9) : z / 10 ^ (8 - m) / 10 = z / 10 ^ (9 - m) := by
  rw [Nat.div_div_eq_div_mul, ← Nat.pow_succ, show (8 - m).succ = 9 - m by omega]

set_option maxHeartbeats 400000 in
theorem writeLimb_any (b off cap z N : Nat) (f : Nat → Nat) (w : World) (hz : z < 1000000000) (hN : off + 9 ≤ N) (hNb : N ≤ 500000000) (hc : 9 ≤ cap) (hcap : cap ≤ 500000000) (hO : Ow w .u8 b f N) :
    Calls Tryz.prog 118 #[.slice (some ⟨b, off, none⟩) 9 cap, .int .i64 z] w fun e w' => e = .returned (.tuple #[]) ∧ Ow w' .u8 b (wl f off z 0) N ∧ Wr w w' b := by
  go_enter Tryz.func118, Tryz.ntmps118
  go_wp2
  go_loopw [1, 4] (fun l i wr => ∃ j : Nat, j ≤ 9 ∧ (j = 0 ∧ i = .int .i64 (-1) ∨ ∃ m, j = m + 1 ∧ i = .int .i64 (m : Nat)) ∧ l = .int .i64 (z / 10 ^ (9 - j) : Nat) ∧ Ow wr .u8 b (wl f off z j) N ∧ Wr w wr b) (fun _ i _ => (intOf i + 1).toNat)
  case atStart =>
    refine ⟨9, Nat.le_refl _, Or.inr ⟨8, rfl, rfl⟩, by simp, hO.congr fun i hi => ?_, Wr.refl _ _⟩
    unfold wl; rw [if_neg (by omega)]
  case round =>
    obtain ⟨j, hj, hi, rfl, hOr, hWr⟩ := hrel
    rcases hi with ⟨rfl, rfl⟩ | ⟨m, rfl, rfl⟩
    · go_wp2
      go_end0
      exact ⟨rfl, hOr, hWr⟩
    · have hcl := hOr.cell (off + m) (by omega)
      have hfz := hOr.frz (off + m)
      have hq : z / 10 ^ (9 - (m + 1)) < 1000000000 := Nat.lt_of_le_of_lt (Nat.div_le_self _ _) hz
      generalize hqe : z / 10 ^ (9 - (m + 1)) = q at *
      have HQ : Hid (z / 10 ^ (9 - (m + 1)) = q) := hqe
      clear hqe
      go_wp2
      go_roundw
      case rel =>
        have hqo := HQ.out
        rw [show 9 - (m + 1) = 8 - m by omega] at hqo
        have hst := hOr.store (j := off + m) (by omega) (48 + q % 10)
        refine ⟨m, by omega, ?_, ?_, ?_, ?_⟩
        · rcases Nat.eq_zero_or_pos m with c | c
          · exact Or.inl ⟨c, by subst c; rfl⟩
          · exact Or.inr ⟨m - 1, by omega, by go_num⟩
        · rw [← div_step z m (by omega), hqo]; go_num
        · have hst' := hst.congr (g := wl f off z m) fun i hi => by rw [← hqo]; exact wl_step f off z m i (by omega)
          exact hst'
        · exact hWr.setCell _ _
      case measure => simp [intOf]

theorem Tryz.info2 : (Tryz.prog.info? 2).map (fun i => (i.zero, i.size, i.bytes)) = some (some (.int .i64 0), 1, 8) := by kernel_rfl

def vals (f : Nat → Nat) (k : Nat) : List Value := (List.range k).map fun i => .int .i64 (f i : Nat)

theorem vals_snoc (f : Nat → Nat) (k v : Nat) : vals f k ++ [.int .i64 (v : Nat)] = vals (up f k v) (k + 1) := by
  unfold vals
  rw [List.range_succ, List.map_append, List.map_singleton, up_same]
  congr 1
  apply List.map_congr_left
  intro i hi
  rw [up_other f v (by simp at hi; omega)]

theorem parse_step (s : ByteArray) (k a : Nat) (f : Nat → Nat) (hd : Dg s.data.toList) (h0 : 9 * k < s.size) (ha : a = s.size - 9 * k - 9) :
    (s.extract a (s.size - 9 * k)).size ≤ 9 ∧ Dg (s.extract a (s.size - 9 * k)).data.toList ∧ dv (s.extract a (s.size - 9 * k)).data.toList < 1000000000 ∧
    (dv s.data.toList = dv (s.data.toList.take (s.size - 9 * k)) * 1000000000 ^ k + lv f k → dv s.data.toList = dv (s.data.toList.take (s.size - 9 * (k + 1))) * 1000000000 ^ (k + 1) + lv (up f k (dv (s.extract a (s.size - 9 * k)).data.toList)) (k + 1)) := by
  have hsz : s.data.toList.length = s.size := Array.length_toList
  have hx := Lib.extract_data s a (s.size - 9 * k)
  generalize hL : s.data.toList = L at *
  generalize ht : s.extract a (s.size - 9 * k) = t at *
  have htl : t.size = t.data.toList.length := Array.length_toList.symm
  rw [htl]
  generalize t.data.toList = M at *
  have hsub : ∀ c, c ∈ M → c ∈ L := fun c hc => by rw [hx] at hc; exact List.mem_of_mem_drop (List.mem_of_mem_take hc)
  have hMl : M.length = s.size - 9 * k - a := by rw [hx, List.length_take, List.length_drop, hsz]; omega
  have hDM : Dg M := fun c hc => hd c (hsub c hc)
  have hlt := dv_lt hDM
  have h9 : 10 ^ M.length ≤ 10 ^ 9 := Nat.pow_le_pow_right (by omega) (by omega)
  refine ⟨by omega, hDM, by omega, fun hdv => ?_⟩
  have hcut : L.take (s.size - 9 * k) = L.take a ++ M := by
    rw [hx, show s.size - 9 * k = a + (s.size - 9 * k - a) by omega, List.take_add]
    simp
  have hstep : dv (L.take (s.size - 9 * k)) = dv (L.take a) * 1000000000 + dv M := by
    rw [hcut, dv_append]
    by_cases c : 9 ≤ s.size - 9 * k
    · rw [show M.length = 9 by omega]
    · rw [show a = 0 by omega]; simp [dv_nil]
  rw [lv_succ, up_same, lv_up (Nat.le_refl k), show s.size - 9 * (k + 1) = a by omega, Nat.pow_succ]
  rw [hstep, Nat.add_mul, Nat.mul_assoc, Nat.mul_comm 1000000000 (1000000000 ^ k)] at hdv
  omega

set_option maxHeartbeats 1000000 in
theorem parse_any (s : ByteArray) (w : World) (hs : s.size ≤ 500000) (hd : Dg s.data.toList) :
    Calls Tryz.prog 103 #[.string s] w fun e w' => ∃ g n cap f, e = .returned (.slice (some ⟨g, 0, none⟩) n cap) ∧ Ow w' .i64 g f n ∧ n ≤ cap ∧ cap ≤ 100000 ∧ w.heap.size ≤ g ∧ Nrm f n ∧ lv f n = dv s.data.toList ∧ Below w.heap.size w w' ∧ Shp w' g cap := by
  obtain ⟨i0, hi, hz0, hz1, hz2⟩ := info_parts Tryz.info2
  have hsz : s.data.toList.length = s.size := Array.length_toList
  have HSZ : Hid (s.data.toList.length = s.size) := hsz
  clear hsz
  go_enter Tryz.func103, Tryz.ntmps103
  go_wp2_with (first | (at_make; refine wpList_make_own _ rfl _ _ 133 rfl w.heap.size 2 i0 (.int .i64 0) 1 Tryz.underlying133 hi hz0 hz1 _ _ _ (s.size / 9 + 1) rfl rfl (by omega) (by rw [hz2]; omega) (by unfold maxLen; omega) (Nat.le_refl _) ?_))
  intro w1 hown1 hgrow1
  go_wp2_with fail
  go_loopw [3, 4] (fun v i wr => ∃ k f, k ≤ s.size / 9 + 1 ∧ i = .int .i64 ((s.size : Int) - 9 * (k : Int)) ∧ v = .slice (some ⟨w.heap.size, 0, none⟩) k (s.size / 9 + 1) ∧ wr.ownsRow w.heap.size 2 1 (.slice (some ⟨w.heap.size, 0, none⟩) k (s.size / 9 + 1)) k (vals f k) ∧ Below w.heap.size w wr ∧ (∀ i, i < k → f i < 1000000000) ∧ dv s.data.toList = dv (s.data.toList.take (s.size - 9 * k)) * 1000000000 ^ k + lv f k) (fun _ i _ => (intOf i).toNat)
  case atStart =>
    refine ⟨0, fun _ => 0, by omega, by simp, rfl, hown1, (Below.refl _ _).grown hgrow1 (Nat.le_refl _) (fun k h => by cases h), fun i h => by omega, ?_⟩
    rw [List.take_of_length_le (by rw [HSZ.out]; omega)]; simp [lv]
  case round =>
    obtain ⟨k, f, hk, rfl, rfl, hown, hbel, hbd, hdv⟩ := hrel
    clear hown1 hgrow1
    have HD : Hid _ := hdv
    clear hdv
    by_cases h0 : 9 * k < s.size
    · obtain ⟨a, ha⟩ : ∃ a, a = s.size - 9 * k - 9 := ⟨_, rfl⟩
      obtain ⟨p1, p2, p3, p4⟩ := parse_step s k a f hd h0 ha
      have P4 : Hid _ := p4
      clear p4
      have HA : Hid (a = s.size - 9 * k - 9) := ha
      clear ha
      by_cases h9 : 9 * k + 9 ≤ s.size
      · go_wp2_with fail
        rw [← HA.out]
        generalize s.extract a (s.size - 9 * k) = t at *
        refine (parseLimb_any t _ p1 p2).mono ?_
        rintro e w' ⟨rfl, rfl⟩
        generalize dv t.data.toList = d at *
        go_wp2_with (first | (at_builtin; refine wpList_append_fits _ rfl _ _ 133 rfl w.heap.size 2 i0 1 Tryz.underlying133 hi hz1 w.heap.size k (s.size / 9 + 1) (vals f k) rfl (hown.alloc _) _ 1 1 [.int .i64 d] rfl rfl (cell_one_new _ _ _) (by intro u hu; simp at hu; subst hu; rfl) (by omega) ?_))
        intro w3 hown3 hgrow3
        go_wp2
        go_roundw
        case rel =>
          rw [vals_snoc] at hown3
          refine ⟨k + 1, up f k d, by omega, by go_num, rfl, hown3, ((hbel.alloc hbel.size _).grown hgrow3 (by have := hbel.size; simp; omega) (fun j h => by simp at h; omega)), fun i hi => ?_, P4.out HD.out⟩
          by_cases e : i = k
          · subst e; rw [up_same]; exact p3
          · rw [up_other f d e]; exact hbd i (by omega)
        case measure => simp [intOf]; omega
      · go_wp2_with fail
        have h00 : s.extract 0 (s.size - 9 * k) = s.extract a (s.size - 9 * k) := by rw [show a = 0 by have := HA.out; omega]
        rw [h00]
        clear h00
        generalize s.extract a (s.size - 9 * k) = t at *
        refine (parseLimb_any t _ p1 p2).mono ?_
        rintro e w' ⟨rfl, rfl⟩
        generalize dv t.data.toList = d at *
        go_wp2_with (first | (at_builtin; refine wpList_append_fits _ rfl _ _ 133 rfl w.heap.size 2 i0 1 Tryz.underlying133 hi hz1 w.heap.size k (s.size / 9 + 1) (vals f k) rfl (hown.alloc _) _ 1 1 [.int .i64 d] rfl rfl (cell_one_new _ _ _) (by intro u hu; simp at hu; subst hu; rfl) (by omega) ?_))
        intro w3 hown3 hgrow3
        go_wp2
        go_roundw
        case rel =>
          rw [vals_snoc] at hown3
          refine ⟨k + 1, up f k d, by omega, by go_num, rfl, hown3, ((hbel.alloc hbel.size _).grown hgrow3 (by have := hbel.size; simp; omega) (fun j h => by simp at h; omega)), fun i hi => ?_, P4.out HD.out⟩
          by_cases e : i = k
          · subst e; rw [up_same]; exact p3
          · rw [up_other f d e]; exact hbd i (by omega)
        case measure => simp [intOf]; omega
    · go_wp2_with fail
      have hO : Ow wr .i64 w.heap.size f k := ⟨fun i hi => by rw [hown.cellAt i (by omega)]; simp [vals, hi], fun i => hown.frozenAt i, (hown.lt _ rfl).2⟩
      refine (trim_any w.heap.size 0 k (s.size / 9 + 1) f _ (by omega) hk (by omega) hO.rw).mono ?_
      rintro e w' ⟨⟨n, hn, hzero, htop, rfl⟩, rfl⟩
      go_wp2
      go_ret
      have hd0 := HD.out
      rw [show s.size - 9 * k = 0 by omega, List.take_zero, dv_nil, Nat.zero_mul, Nat.zero_add, lv_cut hn hzero] at hd0
      exact ⟨w.heap.size, n, s.size / 9 + 1, f, rfl, ⟨fun i hi => hO.cell i (by omega), hO.frz, hO.lt⟩, by omega, by omega, Nat.le_refl _, ⟨fun i hi => hbd i (by omega), htop⟩, hd0.symm, hbel, Shp.of_own hown⟩
end
end Go.Proofs.YtadgnafafdfioaaGreatDoor
namespace Go.Proofs.YtadgnafafdfioaaGreatDoor
section
set_option maxRecDepth 100000
open Go.RowKit Nm
set_option linter.unusedVariables false

theorem Tryz.info5 : (Tryz.prog.info? 5).map (fun i => (i.zero, i.size, i.bytes)) = some (some (.int .u8 0), 1, 1) := by kernel_rfl

theorem S_zero : S 0 = ⟨#[48]⟩ := by
  have : tx 0 = [48] := tx_of (by decide) (by decide)
  simp [S, this]

set_option maxHeartbeats 400000 in
theorem text_none (ao : Option Addr) (cap : Nat) (w : World) :
    Calls Tryz.prog 104 #[.slice ao 0 cap] w fun e w' => e = .returned (.string (S 0)) ∧ w' = w := by
  rw [S_zero]
  go_enter Tryz.func104, Tryz.ntmps104
  go_wp2
  go_ret
  exact ⟨rfl, rfl⟩

/-- what the bytes hold when k limbs are written -/
structure Txt (o f : Nat → Nat) (n k : Nat) : Prop where
  dig : ∀ i, 9 * n - 9 * k ≤ i → i < 9 * n → 48 ≤ o i ∧ o i ≤ 57
  val : bd o (9 * n - 9 * k) (9 * k) = lv f k

theorem Txt.step {o f : Nat → Nat} {n k : Nat} (h : Txt o f n k) (hk : k < n) (hf : f k < 1000000000) : Txt (wl o (9 * n - 9 * k - 9) (f k) 0) f n (k + 1) := by
  have e1 : ∀ i, 9 * n - 9 * k ≤ i → wl o (9 * n - 9 * k - 9) (f k) 0 i = o i := fun i hi => by unfold wl; rw [if_neg (by omega)]
  have e2 : ∀ i, 9 * n - 9 * k - 9 ≤ i → i < 9 * n - 9 * k - 9 + 9 → wl o (9 * n - 9 * k - 9) (f k) 0 i = 48 + f k / 10 ^ (9 * n - 9 * k - 9 + 8 - i) % 10 := fun i a b => by unfold wl; rw [if_pos (by omega)]
  refine ⟨fun i a b => ?_, ?_⟩
  · by_cases c : 9 * n - 9 * k ≤ i
    · rw [e1 i c]; exact h.dig i c b
    · rw [e2 i (by omega) (by omega)]; omega
  · rw [show 9 * n - 9 * (k + 1) = 9 * n - 9 * k - 9 by omega, show 9 * (k + 1) = 9 + 9 * k by omega, bd_limb hf e2, show 9 * n - 9 * k - 9 + 9 = 9 * n - 9 * k by omega, bd_congr (fun i a b => e1 i a), h.val, lv_succ, Nat.pow_mul]
    rw [show (10 ^ 9 : Nat) = 1000000000 by decide]
    omega

set_option maxHeartbeats 1000000 in
theorem text_any (b off n cap : Nat) (f : Nat → Nat) (w : World) (hn : n ≤ 5000000) (h0 : 0 < n) (hR : Rw w b off f n) (hN : Nrm f n) :
    Calls Tryz.prog 104 #[.slice (some ⟨b, off, none⟩) n cap] w fun e w' => e = .returned (.string (S (lv f n))) ∧ Below w.heap.size w w' := by
  obtain ⟨i0, hi, hz0, hz1, hz2⟩ := info_parts Tryz.info5
  have hb : b < w.heap.size := cell_lt (hR 0 h0)
  go_enter Tryz.func104, Tryz.ntmps104
  go_wp2_with (first | (at_make; refine wpList_make_full _ rfl _ _ 103 rfl w.heap.size 5 i0 (.int .u8 0) 1 Tryz.underlying103 hi hz0 hz1 _ _ _ _ (n * 9) rfl rfl (by omega) (by omega) (by rw [hz2]; omega) (by unfold maxLen; omega) (Nat.le_refl _) ?_))
  intro w1 hown1 hgrow1
  go_wp2_with fail
  have hO1 := Ow.of_own hown1
  have hB1 : Below w.heap.size w w1 := (Below.refl _ _).grown hgrow1 (Nat.le_refl _) (fun k h => by cases h)
  clear hown1 hgrow1
  go_loopw [17] (fun i wr => ∃ k o, k ≤ n ∧ i = .int .i64 (k : Nat) ∧ Ow wr .u8 w.heap.size o (n * 9) ∧ Txt o f n k ∧ Below w.heap.size w wr) (fun i _ => n - (intOf i).toNat)
  case atStart => exact ⟨0, fun _ => 0, by omega, rfl, hO1, ⟨fun i a b => by omega, rfl⟩, hB1⟩
  case round =>
    obtain ⟨k, o, hk, rfl, hO, hT, hB⟩ := hrel
    clear hO1 hB1
    by_cases hlt : k < n
    · have hc := (hR.below hB hb) k hlt
      have hf := hN.1 k hlt
      go_wp2_with fail
      rw [show n * 9 - k * 9 - (n * 9 - k * 9 - 9) = 9 by omega, show n * 9 - k * 9 - 9 = 9 * n - 9 * k - 9 by omega]
      refine (writeLimb_any w.heap.size (9 * n - 9 * k - 9) _ (f k) (n * 9) o _ hf (by omega) (by omega) (by omega) (by omega) hO).mono ?_
      rintro e w2 ⟨rfl, hO2, hW2⟩
      have hT2 := hT.step hlt hf
      have hB2 := hB.trans (hW2.below (Nat.le_refl _))
      clear hO hT hB hc
      go_wp2
      go_roundw
      case rel => exact ⟨k + 1, _, by omega, by go_num, hO2, hT2, hB2⟩
      case measure => simp [intOf]; omega
    · have hkn : k = n := by omega
      have HK : Hid (k = n) := hkn
      clear hkn
      have hpos : 0 < bd o 0 (n * 9) := by
        have h1 := hT.val
        rw [HK.out, Nat.sub_self, Nat.mul_comm 9 n] at h1
        rw [h1]
        have := hN.hi h0
        have := posB (n - 1)
        omega
      go_wp2_with fail
      go_loop [7] (fun i => ∃ p : Nat, p ≤ n * 9 ∧ i = .int .i64 (p : Nat) ∧ ∀ i, i < p → o i = 48) (fun i => n * 9 - (intOf i).toNat)
      case atStart => exact ⟨0, by omega, rfl, fun i h => by omega⟩
      case round =>
        obtain ⟨p, hp, rfl, hz⟩ := hrel
        have hlt2 : p < n * 9 := by
          rcases Nat.lt_or_ge p (n * 9) with c | c
          · exact c
          · exfalso
            have := bd_zeros (o := o) (k := n * 9) (m := 0) (p := 0) (fun i a b => hz i (by omega))
            simp only [Nat.add_zero] at this
            rw [this] at hpos
            simp [bd] at hpos
        have hc := hO.cell p hlt2
        by_cases hq : o p = 48
        · rw [hq] at hc
          go_wp2
          go_round
          case rel =>
            refine ⟨p + 1, by omega, by go_num, fun i hi => ?_⟩
            by_cases e : i = p
            · rw [e]; exact hq
            · exact hz i (by omega)
          case measure => simp [intOf]; omega
        · have hne : (((o p : Nat) : Int) == 48) = false := by simp; omega
          obtain ⟨xs, hxs⟩ : ∃ xs : List Int, xs = (List.range (n * 9 - p)).map fun i => ((o (p + i) : Nat) : Int) := ⟨_, rfl⟩
          have hcv := run_convert_bytes_arg (P := Tryz.prog) wr 103 5 Tryz.underlying103 Tryz.underlying5 w.heap.size p (n * 9 - p) (n * 9 - p) xs (by rw [hxs]; simp) (fun i hi => by rw [hO.cell (p + i) (by omega), hxs]; simp [hi]) 9 Tryz.underlying9
          have HX : Hid (xs = (List.range (n * 9 - p)).map fun i => ((o (p + i) : Nat) : Int)) := hxs
          clear hxs
          go_wp2
          go_ret
          have hfin : strOfNums xs = S (lv f n) := by
            have hdig : ∀ i, i < 9 * n → 48 ≤ o i ∧ o i ≤ 57 := fun i hi => hT.dig i (by rw [HK.out]; omega) hi
            have hl : (strOfNums xs).data.toList = (List.range (n * 9 - p)).map fun i => UInt8.ofNat (o (p + i)) := by
              rw [strOfNums_data, HX.out, List.map_map]
              apply List.map_congr_left
              intro i _
              simp
            have hr : rt (strOfNums xs).data.toList = true := by
              rw [hl]
              exact rt_row (by omega) (fun i a b => hdig i (by omega)) hq
            have hv : dv (strOfNums xs).data.toList = lv f n := by
              rw [hl, dv_bd (fun i a b => by have := hdig i (by omega); omega)]
              have h1 := hT.val
              rw [HK.out, Nat.sub_self, Nat.mul_comm 9 n] at h1
              rw [← h1]
              have h2 := bd_zeros (o := o) (k := p) (m := n * 9 - p) (p := 0) (fun i a b => hz i (by omega))
              rw [show p + (n * 9 - p) = n * 9 by omega, Nat.zero_add] at h2
              exact h2.symm
            rw [S_of hr, hv]
          exact ⟨by rw [← hfin]; rfl, hB⟩
end
end Go.Proofs.YtadgnafafdfioaaGreatDoor
namespace Go.Proofs.YtadgnafafdfioaaGreatDoor
section
set_option maxRecDepth 100000
open Go.RowKit Nm
set_option linter.unusedVariables false

/-- what a function of limbs hands back: a row of its own, in the form of limbs, with a value -/
def Res (w : World) (v : Nat) (e : Ending) (w' : World) : Prop :=
  ∃ g n cap f, e = .returned (.slice (some ⟨g, 0, none⟩) n cap) ∧ Ow w' .i64 g f n ∧ n ≤ cap ∧ cap ≤ 5000000 ∧ w.heap.size ≤ g ∧ Nrm f n ∧ lv f n = v ∧ Below w.heap.size w w'

end
end Go.Proofs.YtadgnafafdfioaaGreatDoor
namespace Go.Proofs.YtadgnafafdfioaaGreatDoor
section
set_option maxRecDepth 100000
open Go.RowKit Nm
set_option linter.unusedVariables false
end
end Go.Proofs.YtadgnafafdfioaaGreatDoor
