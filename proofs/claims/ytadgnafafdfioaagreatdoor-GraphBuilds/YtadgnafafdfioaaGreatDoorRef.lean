/-
  THE DOCUMENT'S NATURAL NUMBERS. Conditions: each theorem's own.
-/
import Derived.Test.YtadgnafafdfioaaGreatDoorDiv
import Derived.Test.YtadgnafafdfioaaGreatDoorNm
import Derived.Laws.BytesArg
import Derived.Test.YtadgnafafdfioaaGreatDoorOps
namespace Go.Proofs.YtadgnafafdfioaaGreatDoor
section
set_option maxRecDepth 100000
open Go.RowKit Nm
set_option linter.unusedVariables false

def strLen : Value → Nat | .string t => t.size | _ => 0

theorem one_off (t : ByteArray) (h : 0 < t.size) : (t.extract 1 t.size).data.toList = t.data.toList.tail := by
  rw [Lib.extract_data, ← len_data, List.take_of_length_le (by simp), List.drop_one]

theorem cons_of (t : ByteArray) (h : 0 < t.size) : t.data.toList = t[0] :: t.data.toList.tail := by
  have h' : t.data.toList ≠ [] := fun e => by have := len_data t; rw [e] at this; simp at this; omega
  have hh := head_eq h
  match hl : t.data.toList, h' with
  | c :: l, _ => rw [hl] at hh; simp at hh; rw [hh]; rfl

set_option maxHeartbeats 1000000 in
theorem plain_any (s : ByteArray) (w : World) (hs : s.size ≤ 5000000) (hd : Dg s.data.toList) :
    Calls Tryz.prog 71 #[.string s] w fun e w' => e = .returned (.string (S (dv s.data.toList))) ∧ w' = w := by
  generalize hn : dv s.data.toList = n
  have HN : Hid _ := hn
  clear hn
  go_enter Tryz.func71, Tryz.ntmps71
  go_wp2_with fail
  go_loop [0] (fun v => ∃ t : ByteArray, v = .string t ∧ t.size ≤ 5000000 ∧ Dg t.data.toList ∧ dv t.data.toList = n) (fun v => strLen v)
  case atStart => exact ⟨s, rfl, hs, hd, HN.out⟩
  case round =>
    obtain ⟨t, rfl, ht, hdt, hvt⟩ := hrel
    have HV : Hid _ := hvt
    clear hvt
    rcases Nat.lt_trichotomy t.size 1 with c | c | c
    · have h0 : t.data.toList = [] := List.length_eq_zero_iff.1 (by rw [len_data]; omega)
      have hE : t.toList.isEmpty = true := by rw [toList_data, h0]; rfl
      have HR : Hid (S n = ⟨#[48]⟩) := by
        show S n = _
        rw [← HV.out, h0]; exact S_zero
      clear h0
      go_wp2
      go_ret
      exact ⟨by rw [HR.out]; rfl, rfl⟩
    · have hc := cons_of t (by omega)
      have hE : t.toList.isEmpty = false := by rw [toList_data, hc]; rfl
      have HR : Hid (t = S n) := by
        show t = S n
        rw [← HV.out]
        exact S_of ((rt_iff _).2 ⟨hdt, Or.inl (by rw [len_data]; exact c)⟩)
      have c' : ¬ 1 < t.size := by omega
      clear hc c
      go_wp2
      go_ret
      exact ⟨by rw [← HR.out]; rfl, rfl⟩
    · have h0 : 0 < t.size := by omega
      have hc := cons_of t h0
      have hE : t.toList.isEmpty = false := by rw [toList_data, hc]; rfl
      by_cases d : t[0].toNat = 48
      · have e48 : (((t[0].toNat : Nat) : Int) == 48) = true := by simp [d]
        have o1 := one_off t h0
        have P : Hid ((t.extract 1 t.size).size = t.size - 1 ∧ Dg (t.extract 1 t.size).data.toList ∧ dv (t.extract 1 t.size).data.toList = n) := by
          refine ⟨?_, ?_, ?_⟩
          · rw [← len_data, o1, List.length_tail, len_data]
          · rw [o1]; exact fun x hx => hdt x (List.mem_of_mem_tail hx)
          · rw [o1, ← HV.out]
            conv => rhs; rw [hc, dv_cons, d]
            simp
        clear o1 d hc
        go_wp2
        go_round
        case rel => exact ⟨_, rfl, by rw [P.out.1]; omega, P.out.2.1, P.out.2.2⟩
        case measure => simp only [strLen]; rw [P.out.1]; omega
      · have e48 : (((t[0].toNat : Nat) : Int) == 48) = false := by simp; omega
        have HR : Hid (t = S n) := by
          show t = S n
          rw [← HV.out]
          refine S_of ((rt_iff _).2 ⟨hdt, Or.inr ⟨by rw [len_data]; exact c, ?_⟩⟩)
          rw [head_eq h0]
          intro e
          simp at e
          exact d (by rw [e]; rfl)
        clear hc d
        go_wp2
        go_ret
        exact ⟨by rw [← HR.out]; rfl, rfl⟩
end
end Go.Proofs.YtadgnafafdfioaaGreatDoor
namespace Go.Proofs.YtadgnafafdfioaaGreatDoor
section
set_option maxRecDepth 100000
open Go.RowKit Nm
set_option linter.unusedVariables false

theorem Tryz.info3 : (Tryz.prog.info? 3).map (fun i => (i.zero, i.size, i.bytes)) = some (some (.int .i64 0), 1, 8) := by kernel_rfl

theorem dg_at (s : ByteArray) (i : Nat) (h : i < s.size) : dg s.data.toList i = s[s.size - 1 - i].toNat - 48 := by
  unfold dg
  rw [len_data, if_pos h]
  have h2 : s.size - 1 - i < s.data.toList.length := by rw [len_data]; omega
  have e : s.data.toList.getD (s.size - 1 - i) 0 = s.data.toList[s.size - 1 - i] := by simp only [List.getD, List.getElem?_eq_getElem h2, Option.getD_some]
  rw [e]; rfl

set_option maxHeartbeats 400000 in
theorem digit_any (s : ByteArray) (i : Nat) (w : World) (hs : s.size ≤ 5000000) (hi : i ≤ 50000000) (hd : Dg s.data.toList) :
    Calls Tryz.prog 85 #[.string s, .int .i64 i] w fun e w' => e = .returned (.int .i64 (dg s.data.toList i : Nat)) ∧ w' = w := by
  by_cases h : i < s.size
  · have hj : s.size - 1 - i < s.size := by omega
    have hdd := hd _ (mem_at s (s.size - 1 - i) hj)
    have hd1 := hdd.1
    have hd2 := hdd.2
    have HD : Hid _ := dg_at s i h
    clear hdd
    go_enter Tryz.func85, Tryz.ntmps85
    go_wp2
    go_ret
    exact ⟨ret_int (by rw [HD.out]; omega), rfl⟩
  · have HD : Hid (dg s.data.toList i = 0) := by
      show dg _ _ = 0
      unfold dg; rw [len_data, if_neg h]
    go_enter Tryz.func85, Tryz.ntmps85
    go_wp2
    go_ret
    exact ⟨by rw [HD.out]; rfl, rfl⟩

/-- the bytes that are gathered when j digits are told, of n -/
def told (f : Nat → Nat) (n j : Nat) : List Value := (List.range j).map fun t => .int .u8 ((48 + f (n - 1 - t) : Nat) : Int)

theorem told_snoc (f : Nat → Nat) (n j : Nat) : told f n j ++ [.int .u8 ((48 + f (n - 1 - j) : Nat) : Int)] = told f n (j + 1) := by
  unfold told; rw [List.range_succ, List.map_append, List.map_singleton]

theorem own_some {w : World} {base e n : Nat} {v : Value} {xs : List Value} (h : w.ownsRow base e 1 v n xs) (hn : 0 < n) : ∃ g cap, v = .slice (some ⟨g, 0, none⟩) n cap ∧ n ≤ cap ∧ base ≤ g := by
  rcases h.2 with ⟨_, h2⟩ | ⟨g, cap, cur, h1, h2, h3, h4, _⟩
  · omega
  · exact ⟨g, cap, h1, h4, h2⟩

theorem plain_is (s : ByteArray) (n : Nat) (w : World) (hs : s.size ≤ 5000000) (hd : Dg s.data.toList) (hv : dv s.data.toList = n) :
    Calls Tryz.prog 71 #[.string s] w fun e w' => e = .returned (.string (S n)) ∧ w' = w := by
  subst hv; exact plain_any s w hs hd

set_option maxHeartbeats 1000000 in
theorem of_any (g n cap : Nat) (f : Nat → Nat) (w : World) (hn : n ≤ 500000) (h0 : 0 < n) (hO : Ow w .i64 g f n) (hf : ∀ i, i < n → f i < 10) :
    Calls Tryz.prog 86 #[.slice (some ⟨g, 0, none⟩) n cap] w fun e w' => e = .returned (.string (S (dl f n))) ∧ Below w.heap.size w w' := by
  obtain ⟨i0, hi, hz0, hz1, hz2⟩ := info_parts Tryz.info5
  have hgl := hO.lt
  go_enter Tryz.func86, Tryz.ntmps86
  go_wp2_with fail
  go_loopw [3, 4] (fun v i wr => ∃ k, k ≤ n ∧ (k = 0 ∧ i = .int .i64 (-1) ∨ ∃ t, k = t + 1 ∧ i = .int .i64 (t : Nat)) ∧ wr.ownsRow w.heap.size 5 1 v (n - k) (told f n (n - k)) ∧ Below w.heap.size w wr) (fun _ i _ => (intOf i + 1).toNat)
  case atStart =>
    refine ⟨n, Nat.le_refl _, Or.inr ⟨n - 1, by omega, by go_num⟩, ?_, Below.refl _ _⟩
    rw [Nat.sub_self]; exact World.ownsRow_nil _ _ _ _
  case round =>
    obtain ⟨k, hk, hii, hown, hB⟩ := hrel
    rcases hii with ⟨rfl, rfl⟩ | ⟨t, rfl, rfl⟩
    · rw [Nat.sub_zero] at hown
      obtain ⟨g2, c2, hv, hc2, hg2⟩ := own_some hown h0
      rw [hv] at hown
      rw [hv]
      clear hv
      have hcell : ∀ i, i < n → wr.cell? ⟨g2, 0 + i, none⟩ = some (.int .u8 (((List.range n).map fun i => ((48 + f (n - 1 - i) : Nat) : Int)).getD i 0)) := by
        intro i hi
        rw [Nat.zero_add, hown.cellAt i (by omega)]
        simp [told, hi]
      obtain ⟨xs, hxs⟩ : ∃ xs : List Int, xs = (List.range n).map fun i => ((48 + f (n - 1 - i) : Nat) : Int) := ⟨_, rfl⟩
      rw [← hxs] at hcell
      have hcv := run_convert_bytes_arg (P := Tryz.prog) wr 103 5 Tryz.underlying103 Tryz.underlying5 g2 0 n c2 xs (by rw [hxs]; simp) hcell 9 Tryz.underlying9
      have hl : (strOfNums xs).data.toList = rv f n := by
        rw [strOfNums_data, hxs, List.map_map]
        apply List.map_congr_left
        intro i _
        simp only [Function.comp, Int.toNat_natCast]
      have HL : Hid _ := hl
      have hsz : (strOfNums xs).size = n := by rw [← len_data, hl, rv_len]
      clear hxs hcell hl
      generalize strOfNums xs = s at *
      have hsz' : s.size ≤ 5000000 := by omega
      clear hsz
      go_wp2_with fail
      refine (plain_is s (dl f n) _ hsz' (by rw [HL.out]; exact rv_dg hf) (by rw [HL.out, dv_rv hf])).mono ?_
      rintro e w2 ⟨rfl, rfl⟩
      go_wp2
      go_ret
      exact ⟨rfl, hB⟩
    · have hcl := (hO.below hB hgl).cell t (by omega)
      have hft := hf t (by omega)
      have hsn := told_snoc f n (n - (t + 1))
      rw [show n - 1 - (n - (t + 1)) = t by omega, show n - (t + 1) + 1 = n - t by omega] at hsn
      have HS : Hid _ := hsn
      clear hsn
      go_wp2_with (first | (at_builtin; refine wpList_append_own _ rfl _ _ 103 rfl w.heap.size 5 i0 (.int .u8 0) 1 1 Tryz.underlying103 hi hz0 hz1 hz2 rfl (by decide) _ _ _ rfl (hown.alloc _) _ 1 1 [.int .u8 (48 + (f t : Int))] rfl rfl (cell_one_new _ _ _) (by intro u hu; simp at hu; subst hu; rfl) (by unfold maxLen; omega) (by omega) (by have := hB.size; simp; omega) ?_))
      intro v2 w2 hown2 hgrow2 _
      go_wp2
      go_roundw
      case rel =>
        refine ⟨t, by omega, ?_, ?_, (hB.alloc hB.size _).grown hgrow2 (by have := hB.size; simp; omega) (fun j hj => (hown.lt j hj).1)⟩
        · rcases Nat.eq_zero_or_pos t with e | e
          · exact Or.inl ⟨e, by subst e; rfl⟩
          · exact Or.inr ⟨t - 1, by omega, by go_num⟩
        · have := HS.out
          simp only [Int.natCast_add, Int.cast_ofNat_Int] at this
          rw [this, show n - (t + 1) + 1 = n - t by omega] at hown2
          exact hown2
      case measure => simp [intOf]
end
end Go.Proofs.YtadgnafafdfioaaGreatDoor
namespace Go.Proofs.YtadgnafafdfioaaGreatDoor
section
set_option maxRecDepth 100000
open Go.RowKit Nm
set_option linter.unusedVariables false

theorem dl_S (x n : Nat) (h : tl x ≤ n) : dl (dg (S x).data.toList) n = x := by
  rw [dl_dg _ n (by rw [len_data, S_size]; exact h), dv_S]

set_option maxHeartbeats 1000000 in
theorem refSub_any (x y : Nat) (w : World) (hx : tl x ≤ 50000) (hy : tl y ≤ 50000) (hle : y ≤ x) :
    Calls Tryz.prog 73 #[.string (S x), .string (S y)] w fun e w' => e = .returned (.string (S (x - y))) ∧ Below w.heap.size w w' := by
  obtain ⟨i0, hi, hz0, hz1, hz2⟩ := info_parts Tryz.info3
  have dx := rt_dg (rt_S x)
  have dy := rt_dg (rt_S y)
  have px := tl_pos x
  have hmono := tl_mono hle
  have zx : (S x).size = tl x := S_size x
  have zy : (S y).size = tl y := S_size y
  have lx : dl (dg (S x).data.toList) (S x).size = x := dl_S x _ (by omega)
  have ly : dl (dg (S y).data.toList) (S x).size = y := dl_S y _ (by omega)
  have hzx : (S x).size ≤ 50000 := by omega
  have hzy : (S y).size ≤ 50000 := by omega
  have hpx : 1 ≤ (S x).size := by omega
  have LX : Hid _ := lx
  have LY : Hid _ := ly
  clear lx ly zx zy
  generalize S x = a at *
  generalize S y = b at *
  go_enter Tryz.func73, Tryz.ntmps73
  go_wp2_with fail
  go_loopw [5, 6, 7] (fun v c i wr => ∃ k o q, k ≤ a.size ∧ i = .int .i64 (k : Nat) ∧ c = .int .i64 (q : Nat) ∧ wr.ownsRow w.heap.size 3 1 v k (vals o k) ∧ Sub10 o (dg a.data.toList) (dg b.data.toList) k q ∧ Below w.heap.size w wr) (fun _ _ i _ => a.size - (intOf i).toNat)
  case atStart => exact ⟨0, fun _ => 0, 0, by omega, rfl, rfl, World.ownsRow_nil _ _ _ _, ⟨fun i h => by omega, by omega, rfl⟩, Below.refl _ _⟩
  case round =>
    obtain ⟨k, o, q, hk, rfl, rfl, hown, hA, hB⟩ := hrel
    have hq := hA.car
    by_cases hlt : k < a.size
    · have x1 := dg_lt dx k
      have x2 := dg_lt dy k
      by_cases hneg : dg b.data.toList k + q ≤ dg a.data.toList k
      · have hst := hA.step (l := dg a.data.toList k - dg b.data.toList k - q) (d := 0) (by omega) (by omega) (by omega)
        go_wp2_with fail
        refine (digit_any a k _ (by omega) (by omega) dx).mono ?_
        rintro e w2 ⟨rfl, rfl⟩
        go_wp2_with fail
        refine (digit_any b k _ (by omega) (by omega) dy).mono ?_
        rintro e w2 ⟨rfl, rfl⟩
        generalize dg a.data.toList k = d1 at *
        generalize dg b.data.toList k = d2 at *
        have hsn := vals_snoc o k (d1 - d2 - q)
        rw [show ((d1 - d2 - q : Nat) : Int) = (d1 : Int) - (d2 : Int) - (q : Int) by omega] at hsn
        have HS : Hid _ := hsn
        clear hsn
        go_wp2_with (first | (at_builtin; refine wpList_append_own _ rfl _ _ 25 rfl w.heap.size 3 i0 (.int .i64 0) 1 8 Tryz.underlying25 hi hz0 hz1 hz2 rfl (by decide) _ _ _ rfl (hown.alloc _) _ 1 1 [.int .i64 ((d1 : Int) - (d2 : Int) - (q : Int))] rfl rfl (cell_one_new _ _ _) (by intro u hu; simp at hu; subst hu; rfl) (by unfold maxLen; omega) (by omega) (by have := hB.size; simp; omega) ?_))
        intro v2 w3 hown2 hgrow2 _
        go_wp2
        go_roundw
        case rel =>
          refine ⟨k + 1, _, _, by omega, by go_num, ?_, ?_, hst, (hB.alloc hB.size _).grown hgrow2 (by have := hB.size; simp; omega) (fun j hj => (hown.lt j hj).1)⟩
          · rfl
          · rw [HS.out] at hown2; exact hown2
        case measure => simp [intOf]; omega
      · have hst := hA.step (l := dg a.data.toList k + 10 - dg b.data.toList k - q) (d := 1) (by omega) (by omega) (by omega)
        go_wp2_with fail
        refine (digit_any a k _ (by omega) (by omega) dx).mono ?_
        rintro e w2 ⟨rfl, rfl⟩
        go_wp2_with fail
        refine (digit_any b k _ (by omega) (by omega) dy).mono ?_
        rintro e w2 ⟨rfl, rfl⟩
        generalize dg a.data.toList k = d1 at *
        generalize dg b.data.toList k = d2 at *
        have hsn := vals_snoc o k (d1 + 10 - d2 - q)
        rw [show ((d1 + 10 - d2 - q : Nat) : Int) = (d1 : Int) - (d2 : Int) - (q : Int) + 10 by omega] at hsn
        have HS : Hid _ := hsn
        clear hsn
        go_wp2_with (first | (at_builtin; refine wpList_append_own _ rfl _ _ 25 rfl w.heap.size 3 i0 (.int .i64 0) 1 8 Tryz.underlying25 hi hz0 hz1 hz2 rfl (by decide) _ _ _ rfl (hown.alloc _) _ 1 1 [.int .i64 ((d1 : Int) - (d2 : Int) - (q : Int) + 10)] rfl rfl (cell_one_new _ _ _) (by intro u hu; simp at hu; subst hu; rfl) (by unfold maxLen; omega) (by omega) (by have := hB.size; simp; omega) ?_))
        intro v2 w3 hown2 hgrow2 _
        go_wp2
        go_roundw
        case rel =>
          refine ⟨k + 1, _, _, by omega, by go_num, ?_, ?_, hst, (hB.alloc hB.size _).grown hgrow2 (by have := hB.size; simp; omega) (fun j hj => (hown.lt j hj).1)⟩
          · rfl
          · rw [HS.out] at hown2; exact hown2
        case measure => simp [intOf]; omega
    · obtain rfl : k = a.size := by omega
      obtain ⟨g2, c2, hv, hc2, hg2⟩ := own_some hown (by omega)
      rw [hv] at hown
      rw [hv]
      clear hv
      have hO := Ow.of_vals hown
      have HF : Hid (dl o a.size = x - y) := by
        show dl o a.size = x - y
        have hva := hA.val
        rw [LX.out, LY.out] at hva
        have hlo := dl_lt hA.lim
        rcases Nat.eq_zero_or_pos q with c | c
        · subst c; omega
        · have : 1 * 10 ^ a.size ≤ q * 10 ^ a.size := Nat.mul_le_mul_right _ c
          omega
      go_wp2_with fail
      refine (of_any g2 a.size c2 o _ (by omega) (by omega) hO hA.lim).mono ?_
      rintro e w2 ⟨rfl, hb2⟩
      rw [HF.out]
      go_wp2
      go_ret
      exact ⟨rfl, hB.trans (hb2.mono hB.size)⟩

theorem less_bytes : ∀ (l m : List UInt8), Dg l → Dg m → l.length = m.length → Op.bytesLess l m = decide (dv l < dv m) := by
  intro l
  induction l with
  | nil =>
    intro m _ _ h
    have hm : m = [] := List.length_eq_zero_iff.1 (by simpa using h.symm)
    subst hm; rfl
  | cons c l ih =>
    intro m hl hm h
    match m, h with
    | d :: m, h =>
      have h' : l.length = m.length := by simpa using h
      have a1 := dv_lt (l := l) (fun e he => hl e (by simp [he]))
      have a2 := dv_lt (l := m) (fun e he => hm e (by simp [he]))
      have b1 := hl c (by simp)
      have b2 := hm d (by simp)
      simp only [Op.bytesLess]
      rw [dv_cons, dv_cons, h']
      rw [h'] at a1
      generalize 10 ^ m.length = P at *
      rcases Nat.lt_trichotomy c.toNat d.toNat with e | e | e
      · have e' : c < d := e
        have : (c.toNat - 48 + 1) * P ≤ (d.toNat - 48) * P := Nat.mul_le_mul_right _ (by omega)
        rw [Nat.add_mul, Nat.one_mul] at this
        have hd : decide ((c.toNat - 48) * P + dv l < (d.toNat - 48) * P + dv m) = true := decide_eq_true (by omega)
        rw [hd]; simp [e']
      · have e' : c = d := UInt8.toNat_inj.1 e
        subst e'
        rw [ih m (fun e he => hl e (by simp [he])) (fun e he => hm e (by simp [he])) h']
        have hn : ¬ c < c := Nat.lt_irrefl _
        simp [hn]
      · have e1 : ¬ c < d := fun x => by have : c.toNat < d.toNat := x; omega
        have e2 : ¬ c = d := fun x => by subst x; omega
        have : (d.toNat - 48 + 1) * P ≤ (c.toNat - 48) * P := Nat.mul_le_mul_right _ (by omega)
        rw [Nat.add_mul, Nat.one_mul] at this
        have hd : decide ((c.toNat - 48) * P + dv l < (d.toNat - 48) * P + dv m) = false := decide_eq_false (by omega)
        rw [hd]; simp [e1, e2]

theorem less_S {x y : Nat} (h : tl x = tl y) : Op.bytesLess (S x).toList (S y).toList = decide (x < y) := by
  rw [toList_data, toList_data, less_bytes _ _ (rt_dg (rt_S x)) (rt_dg (rt_S y)) (by rw [len_data, len_data, S_size, S_size, h]), dv_S, dv_S]

set_option maxHeartbeats 400000 in
theorem refCompare_any (x y : Nat) (w : World) (hx : tl x ≤ 2500000) (hy : tl y ≤ 2500000) :
    Calls Tryz.prog 72 #[.string (S x), .string (S y)] w fun e w' => e = .returned (.int .i64 (sg x y)) ∧ w' = w := by
  have SX : Hid _ := S_size x
  have SY : Hid _ := S_size y
  have z1 : (S x).size ≤ 2500000 := by rw [SX.out]; exact hx
  have z2 : (S y).size ≤ 2500000 := by rw [SY.out]; exact hy
  rcases Nat.lt_trichotomy (tl x) (tl y) with c | c | c
  · have HR : Hid (sg x y = -1) := sg_lt (by
      rcases Nat.lt_or_ge x y with d | d
      · omega
      · have := tl_mono d; omega)
    have h1 : (S x).size < (S y).size := by rw [SX.out, SY.out]; omega
    have h2 : (((S x).size : Int) != ((S y).size : Int)) = true := by rw [bne_iff_ne]; omega
    go_enter Tryz.func72, Tryz.ntmps72
    go_wp2
    go_ret
    exact ⟨by rw [HR.out]; rfl, rfl⟩
  · have h2 : (((S x).size : Int) != ((S y).size : Int)) = false := by
      rw [bne_eq_false_iff_eq, SX.out, SY.out, c]
    have HL : Hid _ := less_S c
    rcases Nat.lt_trichotomy x y with d | d | d
    · have HR : Hid (sg x y = -1) := sg_lt (by omega)
      have h3 : Op.bytesLess (S x).toList (S y).toList = true := by rw [HL.out]; simp; exact d
      go_enter Tryz.func72, Tryz.ntmps72
      go_wp2
      go_ret
      exact ⟨by rw [HR.out]; rfl, rfl⟩
    · subst d
      have HR : Hid (sg x x = 0) := sg_eq rfl
      have h3 : Op.bytesLess (S x).toList (S x).toList = false := by rw [HL.out]; simp
      go_enter Tryz.func72, Tryz.ntmps72
      go_wp2
      go_ret
      exact ⟨by rw [HR.out]; rfl, rfl⟩
    · have HR : Hid (sg x y = 1) := sg_gt (by omega)
      have h3 : Op.bytesLess (S x).toList (S y).toList = false := by rw [HL.out]; simp; omega
      have h4 : ((S x).toList == (S y).toList) = false := eqS (by omega)
      go_enter Tryz.func72, Tryz.ntmps72
      go_wp2
      go_ret
      exact ⟨by rw [HR.out]; rfl, rfl⟩
  · have HR : Hid (sg x y = 1) := sg_gt (by
      rcases Nat.lt_or_ge y x with d | d
      · omega
      · have := tl_mono d; omega)
    have h1 : ¬ (S x).size < (S y).size := by rw [SX.out, SY.out]; omega
    have h2 : (((S x).size : Int) != ((S y).size : Int)) = true := by rw [bne_iff_ne, SX.out, SY.out]; omega
    go_enter Tryz.func72, Tryz.ntmps72
    go_wp2
    go_ret
    exact ⟨by rw [HR.out]; rfl, rfl⟩
end
end Go.Proofs.YtadgnafafdfioaaGreatDoor
namespace Go.Proofs.YtadgnafafdfioaaGreatDoor
section
set_option maxRecDepth 100000
open Go.RowKit Nm
set_option linter.unusedVariables false

theorem ext_one (a : ByteArray) (k : Nat) (h : k < a.size) : (a.extract k (k + 1)).data.toList = [a[k]] := by
  rw [Lib.extract_data, show k + 1 - k = 1 by omega]
  have h' : k < a.data.toList.length := by rw [len_data]; exact h
  rw [List.drop_eq_getElem_cons h']
  simp
  rfl

theorem app_toList (s t : ByteArray) : (s ++ t).data.toList = s.data.toList ++ t.data.toList := by simp [ByteArray.data_append]

theorem div_snoc (P c y : Nat) (hy : 0 < y) : (P * 10 + c) / y = P / y * 10 + (P % y * 10 + c) / y ∧ (P * 10 + c) % y = (P % y * 10 + c) % y := by
  have h := Nat.div_add_mod P y
  have e : P * 10 + c = y * (P / y * 10) + (P % y * 10 + c) := by
    have : P * 10 = (y * (P / y) + P % y) * 10 := by rw [h]
    rw [this, Nat.add_mul, Nat.mul_assoc]; omega
  rw [e, Nat.mul_add_div hy, Nat.mul_add_mod]
  exact ⟨rfl, rfl⟩

def strVal : Value → Nat | .string s => dv s.data.toList | _ => 0

theorem str1 (d : Nat) (h : d < 10) : (strOfNums [48 + (d : Int)]).data.toList = [UInt8.ofNat (48 + d)] := by
  rw [strOfNums_data]
  simp only [List.map_cons, List.map_nil]
  rw [show (48 + (d : Int)).toNat = 48 + d by omega]

set_option maxRecDepth 100000 in
set_option maxHeartbeats 2000000 in
theorem refDiv_any (x y : Nat) (w : World) (hx : tl x ≤ 25000) (hy : tl y ≤ 25000) (h0 : 0 < y) :
    Calls Tryz.prog 55 #[.string (S x), .string (S y)] w fun e w' => e = .returned (.tuple #[.string (S (x / y)), .string (S (x % y))]) ∧ Below w.heap.size w w' := by
  have dx := rt_dg (rt_S x)
  have zx : (S x).size ≤ 25000 := by rw [S_size]; exact hx
  have vx : dv (S x).data.toList = x := dv_S x
  have VX : Hid _ := vx
  clear vx
  generalize S x = a at *
  go_enter Tryz.func55, Tryz.ntmps55
  go_wp2_with fail
  go_loopw [6, 7, 8] (fun q l i wr => ∃ (k : Nat) (qs : ByteArray), k ≤ a.size ∧ i = .int .i64 (k : Nat) ∧ q = .string qs ∧ l = .string (S (dv (a.data.toList.take k) % y)) ∧ qs.size = k ∧ Dg qs.data.toList ∧ dv qs.data.toList = dv (a.data.toList.take k) / y ∧ Below w.heap.size w wr) (fun _ _ i _ => a.size - (intOf i).toNat)
  case atStart =>
    refine ⟨0, ⟨#[]⟩, by omega, rfl, rfl, ?_, rfl, fun c hc => by simp at hc, ?_, Below.refl _ _⟩
    · rw [List.take_zero, dv_nil, Nat.zero_mod, S_zero]
    · rw [List.take_zero, dv_nil, Nat.zero_div]
  case round =>
    obtain ⟨k, qs, hk, rfl, rfl, rfl, hqz, hqd, hqv, hB⟩ := hrel
    have HQZ : Hid _ := hqz
    have hqs : qs.size ≤ 25000 := by omega
    have HQV : Hid _ := hqv
    clear hqz hqv
    by_cases hlt : k < a.size
    · have hdig := dx _ (mem_at a k hlt)
      obtain ⟨P, hP⟩ : ∃ P, P = dv (a.data.toList.take k) := ⟨_, rfl⟩
      have hsn : dv (a.data.toList.take (k + 1)) = P * 10 + (a[k].toNat - 48) := by rw [take_snoc a k hlt, dv_snoc, hP]
      rw [← hP]
      rw [← hP] at HQV
      obtain ⟨c, hc⟩ : ∃ c, c = a[k].toNat - 48 := ⟨_, rfl⟩
      rw [← hc] at hsn
      have hcl : c < 10 := by omega
      obtain ⟨s1, s2⟩ := div_snoc P c y h0
      have hr := Nat.mod_lt P h0
      have HSN : Hid _ := hsn
      have S1' : Hid _ := s1
      have S2' : Hid _ := s2
      have hPx : P ≤ x := by
        have := dv_append (a.data.toList.take k) (a.data.toList.drop k)
        rw [List.take_append_drop, VX.out, ← hP] at this
        have : P * 1 ≤ P * 10 ^ (a.data.toList.drop k).length := Nat.mul_le_mul_left _ (pos10 _)
        omega
      have e1 : (S (P % y) ++ a.extract k (k + 1)).data.toList = tx (P % y) ++ [a[k]] := by rw [app_toList, S_data, ext_one a k hlt]
      have trm : tl (P % y) ≤ tl y := tl_mono (by omega)
      have hpl : (S (P % y) ++ a.extract k (k + 1)).size ≤ 5000000 := by rw [← len_data, e1, List.length_append]; show tl (P % y) + 1 ≤ 5000000; omega
      have hpd : Dg (S (P % y) ++ a.extract k (k + 1)).data.toList := by
        rw [e1]; intro d hd
        rcases List.mem_append.1 hd with h | h
        · exact rt_dg (rt_tx _) d h
        · simp at h; subst h; exact hdig
      have hpv : dv (S (P % y) ++ a.extract k (k + 1)).data.toList = P % y * 10 + c := by rw [e1, dv_snoc, dv_tx, hc]
      have HPV : Hid _ := hpv
      have HPD : Hid _ := hpd
      have HPL : Hid _ := hpl
      have HP : Hid _ := hP
      have HC : Hid _ := hc
      clear hsn s1 s2 e1 hpv hpd hpl hP hc hdig
      obtain ⟨T, hT⟩ : ∃ T, T = P % y * 10 + c := ⟨_, rfl⟩
      have hTy : T < 10 * y := by omega
      have hz1 : (S (P % y)).size ≤ 25000 := by rw [S_size]; omega
      have htT : tl T ≤ 30000 := by
        have q1 : T ≤ y * 10 := by omega
        have q2 := tl_mono q1
        have q3 := tl_mul y 10
        have q4 : tl 10 ≤ 2 := tl_le (by decide) (by decide)
        omega
      rw [← hT] at HPV S1' S2'
      have HT : Hid _ := hT
      clear hT
      go_wp2_with fail
      refine (plain_is (S (P % y) ++ a.extract k (k + 1)) T _ HPL.out HPD.out HPV.out).mono ?_
      rintro e w1 ⟨rfl, rfl⟩
      go_wp2_with fail
      obtain ⟨wo, hwo⟩ : ∃ wo : World, wo = w1 := ⟨_, rfl⟩
      subst hwo
      go_loopw [7, 9] (fun l i wr => ∃ v d : Nat, l = .string (S v) ∧ i = .int .i64 (d : Nat) ∧ v + d * y = T ∧ Below w.heap.size w wr) (fun l _ _ => strVal l)
      case atStart => exact ⟨T, 0, rfl, rfl, by omega, hB⟩
      case round =>
        obtain ⟨v, d, rfl, rfl, hvd, hB'⟩ := hrel
        have hd10 : d < 10 := by
          have : d * y < 10 * y := by omega
          exact Nat.lt_of_mul_lt_mul_right this
        have tv : tl v ≤ 30000 := Nat.le_trans (tl_mono (by omega)) htT
        have HVD : Hid _ := hvd
        by_cases hvy : v < y
        · have hsg : sg v y < 0 := by rw [sg_lt (by omega)]; omega
          have hq : T / y = d ∧ T % y = v := by
            rw [← hvd, Nat.add_comm, Nat.mul_comm d y]
            exact ⟨by rw [Nat.mul_add_div h0, Nat.div_eq_of_lt hvy]; omega, by rw [Nat.mul_add_mod, Nat.mod_eq_of_lt hvy]⟩
          have HQ : Hid _ := hq
          clear hq hvd
          have hcv := run_convert_bytes_arg (P := Tryz.prog) (wr.alloc (.cells #[.int .u8 (48 + (d : Int))] 5)) 103 5 Tryz.underlying103 Tryz.underlying5 wr.heap.size 0 1 1 [48 + (d : Int)] rfl (fun i hi => by
            obtain rfl : i = 0 := by omega
            rw [World.cell?_alloc_new]; rfl) 9 Tryz.underlying9
          have hst := str1 d hd10
          have hsd : (strOfNums [48 + (d : Int)]).size ≤ 1 := by rw [strOfNums_size]; simp
          have HST : Hid _ := hst
          clear hst
          have hB2 := hB'.alloc hB'.size (.cells #[.int .u8 (48 + (d : Int))] 5)
          generalize strOfNums [48 + (d : Int)] = sd at *
          go_wp2_with fail
          refine (refCompare_any v y _ (by omega) (by omega)).mono ?_
          rintro e w3 ⟨rfl, rfl⟩
          go_wp2
          go_roundw
          case rel =>
            have eq1 : (qs ++ sd).data.toList = qs.data.toList ++ [UInt8.ofNat (48 + d)] := by rw [app_toList, HST.out]
            refine ⟨k + 1, qs ++ sd, by omega, by go_num, rfl, ?_, ?_, ?_, ?_, hB2⟩
            · rw [HSN.out, S2'.out, HQ.out.2]
            · rw [← len_data, eq1, List.length_append, len_data, HQZ.out]; rfl
            · rw [eq1]; intro e he
              rcases List.mem_append.1 he with h | h
              · exact hqd e h
              · simp only [List.mem_singleton] at h; subst h; rw [toNat_dig hd10]; omega
            · rw [eq1, dv_snoc, HQV.out, HSN.out, S1'.out, HQ.out.1, toNat_dig hd10]; omega
          case measure => simp [intOf]; omega
        · have hsg : ¬ sg v y < 0 := sg_nonneg (by omega)
          go_wp2_with fail
          refine (refCompare_any v y _ (by omega) (by omega)).mono ?_
          rintro e w3 ⟨rfl, rfl⟩
          go_wp2_with fail
          refine (refSub_any v y _ (by omega) (by omega) (by omega)).mono ?_
          rintro e w4 ⟨rfl, b4⟩
          have hB4 := hB'.trans (b4.mono hB'.size)
          go_wp2
          go_roundw
          case rel => exact ⟨v - y, d + 1, rfl, by go_num, by have := HVD.out; rw [Nat.add_mul, Nat.one_mul]; omega, hB4⟩
          case measure => simp only [strVal, dv_S]; omega
    · obtain rfl : k = a.size := by omega
      have htk : a.data.toList.take a.size = a.data.toList := List.take_of_length_le (by rw [len_data]; exact Nat.le_refl _)
      rw [htk, VX.out] at HQV ⊢
      go_wp2_with fail
      refine (plain_is qs (x / y) _ (by omega) hqd HQV.out).mono ?_
      rintro e w1 ⟨rfl, rfl⟩
      go_wp2
      go_ret2
      exact ⟨rfl, hB⟩

set_option maxRecDepth 100000 in
set_option maxHeartbeats 1000000 in
theorem refGcd_any (x y : Nat) (w : World) (hx : tl x ≤ 20000) (hy : tl y ≤ 20000) :
    Calls Tryz.prog 54 #[.string (S x), .string (S y)] w fun e w' => e = .returned (.string (S (Nat.gcd x y))) ∧ Below w.heap.size w w' := by
  go_enter Tryz.func54, Tryz.ntmps54
  go_wp2_with fail
  go_loopw [0, 1] (fun a b wr => ∃ u v : Nat, a = .string (S u) ∧ b = .string (S v) ∧ tl u ≤ 20000 ∧ tl v ≤ 20000 ∧ Nat.gcd u v = Nat.gcd x y ∧ Below w.heap.size w wr) (fun _ b _ => strVal b)
  case atStart => exact ⟨x, y, rfl, rfl, hx, hy, rfl, Below.refl _ _⟩
  case round =>
    obtain ⟨u, v, rfl, rfl, hu, hv, hg, hB⟩ := hrel
    have HG : Hid _ := hg
    clear hg
    rcases Nat.eq_zero_or_pos v with c | c
    · subst c
      have e0 : ((S 0).toList == [48]) = true := by rw [S_zero, toList_data]; rfl
      have HR : Hid (Nat.gcd x y = u) := by
        show _ = u
        rw [← HG.out, Nat.gcd_zero_right]
      go_wp2
      go_ret
      exact ⟨by rw [HR.out]; rfl, hB⟩
    · have e0 := eq0 v c
      have hm := Nat.mod_lt u c
      have HR : Hid (Nat.gcd v (u % v) = Nat.gcd x y) := by
        show _ = _
        rw [← HG.out, Nat.gcd_comm v, ← Nat.gcd_rec, Nat.gcd_comm]
      have ht : tl (u % v) ≤ 20000 := Nat.le_trans (tl_mono (by omega)) hv
      go_wp2_with fail
      refine (refDiv_any u v _ (by omega) (by omega) c).mono ?_
      rintro e w2 ⟨rfl, b2⟩
      have hB2 := hB.trans (b2.mono hB.size)
      go_wp2
      go_roundw
      case rel => exact ⟨v, u % v, rfl, rfl, hv, ht, HR.out, hB2⟩
      case measure => simp only [strVal, dv_S]; exact hm
end
end Go.Proofs.YtadgnafafdfioaaGreatDoor
