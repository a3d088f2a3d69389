/-
  THE DOCUMENT'S ANSWERS: what a call of digit, of, Add, Sub, Mul and Compare (the document's) gives. Conditions: sizes; the texts are naturals.
-/
import Derived.Test.YtpmnfgbbkmodpaaGreatDoorPlain
import Derived.Test.YtpmnfgbbkmodpaaGreatDoorNmRef
import Derived.Laws.BytesArg
namespace Go.Proofs.YtpmnfgbbkmodpaaGreatDoor
set_option maxRecDepth 100000
open Go.RowKit Nm
set_option linter.unusedVariables false

theorem Tryz.info3 : (Tryz.prog.info? 3).map (fun i => (i.zero, i.size, i.bytes)) = some (some (.int .i64 0), 1, 8) := by kernel_rfl

theorem dg_at (s : ByteArray) (i : Nat) (h : i < s.size) : dg s.data.toList i = s[s.size - 1 - i].toNat - 48 := by
  unfold dg
  rw [len_data, if_pos h]
  have h2 : s.size - 1 - i < s.data.toList.length := by rw [len_data]; omega
  have e : s.data.toList.getD (s.size - 1 - i) 0 = s.data.toList[s.size - 1 - i] := by simp only [List.getD, List.getElem?_eq_getElem h2, Option.getD_some]
  rw [e]; rfl

set_option maxHeartbeats 400000 in
theorem digit_any (s : ByteArray) (i : Nat) (w : World) (hs : s.size ≤ 100000) (hi : i ≤ 1000000) (hd : Dg s.data.toList) :
    Calls Tryz.prog 79 #[.string s, .int .i64 i] w fun e w' => e = .returned (.int .i64 (dg s.data.toList i : Nat)) ∧ w' = w := by
  by_cases h : i < s.size
  · have hj : s.size - 1 - i < s.size := by omega
    have hdd := hd _ (mem_at s (s.size - 1 - i) hj)
    have hd1 := hdd.1
    have hd2 := hdd.2
    have HD : Hid _ := dg_at s i h
    clear hdd
    go_enter Tryz.func79, Tryz.ntmps79
    go_wp2
    go_ret
    exact ⟨ret_int (by rw [HD.out]; omega), rfl⟩
  · have HD : Hid (dg s.data.toList i = 0) := by
      show dg _ _ = 0
      unfold dg; rw [len_data, if_neg h]
    go_enter Tryz.func79, Tryz.ntmps79
    go_wp2
    go_ret
    exact ⟨by rw [HD.out]; rfl, rfl⟩

/-- the bytes that are gathered when j digits are told, of n -/
def told (f : Nat → Nat) (n j : Nat) : List Value := (List.range j).map fun t => .int .u8 ((48 + f (n - 1 - t) : Nat) : Int)

theorem told_snoc (f : Nat → Nat) (n j : Nat) : told f n j ++ [.int .u8 ((48 + f (n - 1 - j) : Nat) : Int)] = told f n (j + 1) := by
  unfold told; rw [List.range_succ, List.map_append, List.map_singleton]

theorem own_some {w : World} {base e n : Nat} {v : Value} {xs : List Value} (h : w.ownsRow base e 1 v n xs) (hn : 0 < n) : ∃ g cap, v = .slice (some ⟨g, 0, none⟩) n cap ∧ n ≤ cap ∧ base ≤ g := by
  rcases h.2 with ⟨_, h2⟩ | ⟨g, cap, cur, h1, h2, h3, h4, _⟩
  · omega
  · exact ⟨g, cap, h1, h4, h2⟩

theorem plain_is (s : ByteArray) (n : Nat) (w : World) (hs : s.size ≤ 100000) (hd : Dg s.data.toList) (hv : dv s.data.toList = n) :
    Calls Tryz.prog 71 #[.string s] w fun e w' => e = .returned (.string (S n)) ∧ w' = w := by
  subst hv; exact plain_any s w hs hd

set_option maxHeartbeats 1000000 in
theorem of_any (g n cap : Nat) (f : Nat → Nat) (w : World) (hn : n ≤ 10000) (h0 : 0 < n) (hO : Ow w .i64 g f n) (hf : ∀ i, i < n → f i < 10) :
    Calls Tryz.prog 80 #[.slice (some ⟨g, 0, none⟩) n cap] w fun e w' => e = .returned (.string (S (dl f n))) ∧ Below w.heap.size w w' := by
  obtain ⟨i0, hi, hz0, hz1, hz2⟩ := info_parts Tryz.info5
  have hgl := hO.lt
  go_enter Tryz.func80, Tryz.ntmps80
  go_wp2_with fail
  go_loopw [3, 4] (fun v i wr => ∃ k, k ≤ n ∧ (k = 0 ∧ i = .int .i64 (-1) ∨ ∃ t, k = t + 1 ∧ i = .int .i64 (t : Nat)) ∧ wr.ownsRow w.heap.size 5 1 v (n - k) (told f n (n - k)) ∧ Below w.heap.size w wr) (fun _ i _ => (intOf i + 1).toNat)
  case atStart =>
    refine ⟨n, Nat.le_refl _, Or.inr ⟨n - 1, by omega, by go_num⟩, ?_, Below.refl _ _⟩
    rw [Nat.sub_self]; exact World.ownsRow_nil _ _ _ _
  case round =>
    obtain ⟨k, hk, hii, hown, hB⟩ := hrel
    rcases hii with ⟨rfl, rfl⟩ | ⟨t, rfl, rfl⟩
    · rw [Nat.sub_zero] at hown
      obtain ⟨g2, c2, hv, hc2, hg2⟩ := own_some hown h0
      rw [hv] at hown
      rw [hv]
      clear hv
      have hcell : ∀ i, i < n → wr.cell? ⟨g2, 0 + i, none⟩ = some (.int .u8 (((List.range n).map fun i => ((48 + f (n - 1 - i) : Nat) : Int)).getD i 0)) := by
        intro i hi
        rw [Nat.zero_add, hown.cellAt i (by omega)]
        simp [told, hi]
      obtain ⟨xs, hxs⟩ : ∃ xs : List Int, xs = (List.range n).map fun i => ((48 + f (n - 1 - i) : Nat) : Int) := ⟨_, rfl⟩
      rw [← hxs] at hcell
      have hcv := run_convert_bytes_arg (P := Tryz.prog) wr 80 5 Tryz.underlying80 Tryz.underlying5 g2 0 n c2 xs (by rw [hxs]; simp) hcell 9 Tryz.underlying9
      have hl : (strOfNums xs).data.toList = rv f n := by
        rw [strOfNums_data, hxs, List.map_map]
        apply List.map_congr_left
        intro i _
        simp only [Function.comp, Int.toNat_natCast]
      have HL : Hid _ := hl
      have hsz : (strOfNums xs).size = n := by rw [← len_data, hl, rv_len]
      clear hxs hcell hl
      generalize strOfNums xs = s at *
      have hsz' : s.size ≤ 100000 := by omega
      clear hsz
      go_wp2_with fail
      refine (plain_is s (dl f n) _ hsz' (by rw [HL.out]; exact rv_dg hf) (by rw [HL.out, dv_rv hf])).mono ?_
      rintro e w2 ⟨rfl, rfl⟩
      go_wp2
      go_ret
      exact ⟨rfl, hB⟩
    · have hcl := (hO.below hB hgl).cell t (by omega)
      have hft := hf t (by omega)
      have hsn := told_snoc f n (n - (t + 1))
      rw [show n - 1 - (n - (t + 1)) = t by omega, show n - (t + 1) + 1 = n - t by omega] at hsn
      have HS : Hid _ := hsn
      clear hsn
      go_wp2_with (first | (at_builtin; refine wpList_append_own _ rfl _ _ 80 rfl w.heap.size 5 i0 (.int .u8 0) 1 1 Tryz.underlying80 hi hz0 hz1 hz2 rfl (by decide) _ _ _ rfl (hown.alloc _) _ 1 1 [.int .u8 (48 + (f t : Int))] rfl rfl (cell_one_new _ _ _) (by intro u hu; simp at hu; subst hu; rfl) (by unfold maxLen; omega) (by omega) (by have := hB.size; simp; omega) ?_))
      intro v2 w2 hown2 hgrow2 _
      go_wp2
      go_roundw
      case rel =>
        refine ⟨t, by omega, ?_, ?_, (hB.alloc hB.size _).grown hgrow2 (by have := hB.size; simp; omega) (fun j hj => (hown.lt j hj).1)⟩
        · rcases Nat.eq_zero_or_pos t with e | e
          · exact Or.inl ⟨e, by subst e; rfl⟩
          · exact Or.inr ⟨t - 1, by omega, by go_num⟩
        · have := HS.out
          simp only [Int.natCast_add, Int.cast_ofNat_Int] at this
          rw [this, show n - (t + 1) + 1 = n - t by omega] at hown2
          exact hown2
      case measure => simp [intOf]
end Go.Proofs.YtpmnfgbbkmodpaaGreatDoor
