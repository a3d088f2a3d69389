/-
  THE WALK OF ReadDims: the call gives true. Conditions: the theorem's own (what the argument holds; the package's error stands where it was laid).
-/
import Derived.Test.YtokfkmncabmmcaaDoorRe9
namespace Go.Proofs.YtokfkmncabmmcaaDoor.Rd
set_option maxRecDepth 100000
open Go.RowKit
set_option linter.unusedVariables false
set_option linter.unusedSimpArgs false

/-- bytes, as cells -/
def byts (bs : List UInt8) : List Value := bs.map fun b => .int .u8 (b.toNat : Int)
theorem byts_at {bs : List UInt8} {i : Nat} (h : i < bs.length) : (byts bs)[i]? = some (.int .u8 ((bs.getD i 0).toNat : Int)) := by
  simp [byts, List.getD, h]
/-- the numbers that they tell -/
def ks (bs : List UInt8) : List Nat := bs.map fun b => b.toNat % 100
def wds (bs : List UInt8) : List ByteArray := ⟨lParam.toArray⟩ :: ⟨#[119]⟩ :: (ks bs).map dig
def zsI (bs : List UInt8) : List Int := (ks bs).map fun k : Nat => (k : Int)
theorem ks_len (bs : List UInt8) : (ks bs).length = bs.length := by simp [ks]
theorem ks_lt (bs : List UInt8) : ∀ k ∈ ks bs, k < 100 := by
  intro k hk
  obtain ⟨b, _, rfl⟩ := List.mem_map.1 hk
  omega
theorem wds_par (bs : List UInt8) : par (wds bs) = if Sp.Rgt (zsI bs) then some ⟨⟨#[119]⟩, ⟨lParam.toArray⟩, [], zsI bs, em, 0, []⟩ else none := by
  unfold wds
  rw [par_two, if_neg (by decide), if_pos (by decide)]
  unfold giv
  rw [dms_of (nus_digs (ks bs) (ks_lt bs))]
  show (match (if Sp.Rgt (zsI bs) then some (zsI bs) else none) with | some d => _ | none => none) = _
  by_cases h : Sp.Rgt (zsI bs)
  · rw [if_pos h, if_pos h]
    rfl
  · rw [if_neg h, if_neg h]
theorem take_more' {α : Type} (l : List α) (k : Nat) (x : α) (h : l[k]? = some x) : l.take (k + 1) = l.take k ++ [x] := by
  rw [List.take_add_one, h]; rfl
theorem getD_some {bs : List UInt8} {k : Nat} (h : k < bs.length) : bs[k]? = some (bs.getD k 0) := by
  rw [List.getD_eq_getElem?_getD, List.getElem?_eq_getElem h]; rfl
theorem wds_more {bs : List UInt8} {k : Nat} (h : k < bs.length) : wds (bs.take (k + 1)) = wds (bs.take k) ++ [dig ((bs.getD k 0).toNat % 100)] := by
  unfold wds ks
  rw [take_more' _ _ _ (getD_some h)]
  simp
theorem zs_more {bs : List UInt8} {k : Nat} (h : k < bs.length) : zsI (bs.take (k + 1)) = zsI (bs.take k) ++ [(((bs.getD k 0).toNat % 100 : Nat) : Int)] := by
  unfold zsI ks
  rw [take_more' _ _ _ (getD_some h)]
  simp
theorem wds_len (bs : List UInt8) : (wds bs).length = bs.length + 2 := by simp [wds, ks]
theorem zs_len (bs : List UInt8) : (zsI bs).length = bs.length := by simp [zsI, ks]
theorem dig_one {k : Nat} (h : ¬ 9 < k) : dig k = ⟨#[UInt8.ofNat (48 + k)]⟩ := by unfold dig; rw [if_neg h]
theorem dig_two {k : Nat} (h : 9 < k) : dig k = ⟨#[UInt8.ofNat (48 + k / 10), UInt8.ofNat (48 + k % 10)]⟩ := by unfold dig; rw [if_pos h]
theorem dig_size (k : Nat) : (dig k).size ≤ 2 := by
  unfold dig
  split
  · show 2 ≤ 2; omega
  · show 1 ≤ 2; omega
theorem wds_size (bs : List UInt8) : ∀ y ∈ wds bs, y.size ≤ 5 := by
  intro y hy
  unfold wds at hy
  simp only [List.mem_cons, List.mem_map] at hy
  rcases hy with rfl | rfl | ⟨k, _, rfl⟩
  · decide
  · decide
  · have := dig_size k; omega

theorem num_byte : ∀ j : Nat, j < 10 → strOfNums [48 + (j : Int)] = ⟨#[UInt8.ofNat (48 + j)]⟩ := by
  intro j hj
  have : j = 0 ∨ j = 1 ∨ j = 2 ∨ j = 3 ∨ j = 4 ∨ j = 5 ∨ j = 6 ∨ j = 7 ∨ j = 8 ∨ j = 9 := by omega
  rcases this with rfl | rfl | rfl | rfl | rfl | rfl | rfl | rfl | rfl | rfl <;> rfl
theorem own_two' (w : World) (base : Nat) (e : TypeId) (x y : Value) (hb : base ≤ w.heap.size) : (w.alloc (.cells #[x, y] e)).ownsRow base e 1 (.slice (some ⟨w.heap.size, 0, none⟩) 2 2) 2 [x, y] :=
  ⟨rfl, .inr ⟨w.heap.size, 2, #[x, y], rfl, hb, heap_alloc_new w _, Nat.le_refl _, by unfold maxLen; omega, rfl, rfl⟩⟩
set_option maxHeartbeats 4000000 in
theorem readDims_loop (ao : Option Addr) (bs : List UInt8) (c : Nat) (aF aZ : Addr) (w : World) (hE : Er w aF aZ) (hS : Row w ao (byts bs)) (h10 : bs.length ≤ 10) :
    Calls Tryd.prog 4 #[.slice ao bs.length c] w fun e w' => e = .returned (.bool true) ∧ Below w.heap.size w w' := by
  obtain ⟨i3, hi3, hx0, hx1, hx2⟩ := info_parts inf3
  obtain ⟨i9, hi9, hy0, hy1, hy2⟩ := info_parts inf9
  have HR : Hid (∀ v, Below w.heap.size w v → ∀ i, i < bs.length → ∃ b off, ao = some ⟨b, off, none⟩ ∧ v.cell? ⟨b, off + i, none⟩ = some (.int .u8 ((bs.getD i 0).toNat : Int))) := fun v hv i hi => (hS.below hv) i _ (byts_at hi)
  have HE : Hid _ := hE
  have HM : Hid (∀ k, k < bs.length → wds (bs.take (k + 1)) = wds (bs.take k) ++ [dig ((bs.getD k 0).toNat % 100)] ∧ zsI (bs.take (k + 1)) = zsI (bs.take k) ++ [(((bs.getD k 0).toNat % 100 : Nat) : Int)]) := fun k h => ⟨wds_more h, zs_more h⟩
  have HT : Hid (bs.take bs.length = bs) := List.take_length
  have HLn : Hid (∀ k, k ≤ bs.length → (wds (bs.take k)).length = k + 2 ∧ (zsI (bs.take k)).length = k) := fun k h => by rw [wds_len, zs_len, List.length_take]; omega
  clear hS hE
  obtain ⟨N, hN⟩ : ∃ N, bs.length = N := ⟨_, rfl⟩
  have HN : Hid (bs.length = N) := hN
  rw [hN] at HR HM HT HLn h10 ⊢
  clear hN
  go_enter Tryd.func4, Tryd.ntmps4
  go_wp2_with fail
  go_loopw [3, 4, 18] (fun v u i wr => ∃ k : Nat, k ≤ N ∧ i = .int .i64 (k : Int) ∧ wr.ownsRow w.heap.size 9 1 v (k + 2) (txts (wds (bs.take k))) ∧ wr.ownsRow w.heap.size 3 1 u k (ints (zsI (bs.take k))) ∧ Below w.heap.size w wr) (fun _ _ i _ => N - (intOf i).toNat)
  case atStart => exact ⟨0, by omega, rfl, own_two' w _ 9 _ _ (Nat.le_refl _), World.ownsRow_nil _ _ 3 1, (Below.refl _ _).alloc (Nat.le_refl _) _⟩
  case round =>
    obtain ⟨k, hk, rfl, hO9, hO3, hBw⟩ := hrel
    by_cases hkn : k < N
    · obtain ⟨b, off, rfl, hc⟩ := HR.out wr hBw k hkn
      obtain ⟨y, hy⟩ : ∃ y, bs.getD k 0 = y := ⟨_, rfl⟩
      rw [hy] at hc
      obtain ⟨n, hn⟩ : ∃ n, y.toNat = n := ⟨_, rfl⟩
      rw [hn] at hc
      have hn256 : n < 256 := by rw [← hn]; exact y.toNat_lt
      obtain ⟨K, hK⟩ : ∃ K, n % 100 = K := ⟨_, rfl⟩
      have HB : Hid ((bs.getD k 0).toNat % 100 = K) := by show _ = _; rw [hy, hn, hK]
      have hK1 : (n : Int) % 100 = (K : Int) := by omega
      have hK2 : K < 100 := by omega
      have hKt : (n : Int).tmod 100 = (K : Int) := by rw [Int.tmod_eq_emod_of_nonneg (by omega)]; exact hK1
      obtain ⟨j, hj⟩ : ∃ j, K % 10 = j := ⟨_, rfl⟩
      have hj1 : (K : Int) % 10 = (j : Int) := by omega
      have hj2 : j < 10 := by omega
      obtain ⟨d, hd⟩ : ∃ d, K / 10 = d := ⟨_, rfl⟩
      have hd1 : (K : Int).tdiv 10 = (d : Int) := by rw [Int.tdiv_eq_ediv_of_nonneg (by omega)]; omega
      have hd2 : d < 10 := by omega
      have hcv : ∀ (W : World) (z : Int), (convert 32 9 (.slice (some ⟨W.heap.size, 0, none⟩) 1 1)).run Tryd.prog (W.alloc (.cells #[.int .u8 z] 5)) = .ok (.string (strOfNums [z])) (W.alloc (.cells #[.int .u8 z] 5)) := fun W z =>
        run_convert_bytes_arg (P := Tryd.prog) (W.alloc (.cells #[.int .u8 z] 5)) 32 5 Tryd.underlying32 Tryd.underlying5 W.heap.size 0 1 1 [z] rfl (fun i hi => by
            obtain rfl : i = 0 := by omega
            rw [World.cell?_alloc_new]; rfl) 9 Tryd.underlying9
      have hz : ∀ z : Int, (strOfNums [z]).size = 1 := fun _ => rfl
      clear hy hn
      by_cases h9 : 9 < K
      · have hcw : ∀ (W : World) (x z : Int), (convert 32 9 (.slice (some ⟨W.heap.size + 1, 0, none⟩) 1 1)).run Tryd.prog ((W.alloc (.cells #[.int .u8 x] 5)).alloc (.cells #[.int .u8 z] 5)) = .ok (.string (strOfNums [z])) ((W.alloc (.cells #[.int .u8 x] 5)).alloc (.cells #[.int .u8 z] 5)) := fun W x z => by
          have := hcv (W.alloc (.cells #[.int .u8 x] 5)) z
          rw [show (W.alloc (.cells #[.int .u8 x] 5)).heap.size = W.heap.size + 1 by simp] at this
          exact this
        have hdig : strOfNums [48 + (d : Int)] ++ strOfNums [48 + (j : Int)] = dig K := by
          rw [dig_two h9, num_byte d hd2, num_byte j hj2, hd, hj]; rfl
        have hsum : (strOfNums [48 + (d : Int)]).size + (strOfNums [48 + (j : Int)]).size ≤ maxLen := by rw [hz, hz]; unfold maxLen; omega
        have HD : Hid (strOfNums [48 + (d : Int)] ++ strOfNums [48 + (j : Int)] = dig K) := hdig
        clear hdig
        have hX : ∀ o0 o1 o2, Below wr.heap.size wr (((wr.alloc o0).alloc o1).alloc o2) := fun o0 o1 o2 => ((((Below.refl _ wr).alloc (Nat.le_refl _) o0).alloc (by simp <;> omega) o1).alloc (by simp <;> omega) o2)
        have hsz := hBw.size
        go_wp2_with (first | (at_builtin; refine wpList_append_own _ rfl _ _ 22 rfl w.heap.size 9 i9 _ 1 16 Tryd.underlying22 hi9 hy0 hy1 hy2 rfl (by decide) _ (k + 2) (txts (wds (bs.take k))) rfl (((hO9.alloc _).alloc _).alloc _) ⟨wr.heap.size + 1 + 1, 0, none⟩ 1 1 [.string (strOfNums [48 + (d : Int)] ++ strOfNums [48 + (j : Int)])] rfl rfl ?_ ?_ ?_ ?_ ?_ ?_))
        · exact (Row.one (by go_simp)).news
        · intro x hx
          rw [List.mem_singleton.1 hx]; rfl
        · unfold maxLen; omega
        · omega
        · simp; omega
        · intro v' w3 hown3 hgrow _
          have hg3 : w3.ownsRow w.heap.size 3 1 u4 k (ints (zsI (bs.take k))) := Lx.own_grown (Lx.own_below hO3 (hX _ _ _)) (Lx.own_below hO9 (hX _ _ _)) (by decide) hgrow
          have hB3 : Below w.heap.size w w3 := (hBw.trans ((hX _ _ _).mono hsz)).grown hgrow (by simp; omega) (fun x hx => (hO9.lt x hx).1)
          have hs3 := hB3.size
          have HO9 : Hid _ := hown3
          clear hown3 hgrow hO9 hO3 hBw hsz hX
          go_wp2_with (first | (at_builtin; refine wpList_append_own _ rfl _ _ 24 rfl w.heap.size 3 i3 _ 1 8 Tryd.underlying24 hi3 hx0 hx1 hx2 rfl (by decide) _ k (ints (zsI (bs.take k))) rfl (hg3.alloc _) ⟨w3.heap.size, 0, none⟩ 1 1 [.int .i64 (K : Int)] rfl rfl ?_ ?_ ?_ ?_ ?_ ?_))
          · exact (Row.one (by go_simp)).news
          · intro x hx
            rw [List.mem_singleton.1 hx]; rfl
          · unfold maxLen; omega
          · omega
          · simp; omega
          · intro v2 w4 hown4 hgrow4 _
            have hX2 : ∀ o, Below w3.heap.size w3 (w3.alloc o) := fun o => (Below.refl _ _).alloc (Nat.le_refl _) o
            have hg9 : w4.ownsRow w.heap.size 9 1 v' (k + 2 + 1) (txts (wds (bs.take k)) ++ [.string (strOfNums [48 + (d : Int)] ++ strOfNums [48 + (j : Int)])]) := Lx.own_grown (Lx.own_below HO9.out (hX2 _)) (Lx.own_below hg3 (hX2 _)) (by decide) hgrow4
            have hB4 : Below w.heap.size w w4 := (hB3.alloc hs3 _).grown hgrow4 (by simp; omega) (fun x hx => (hg3.lt x hx).1)
            have h9 : Hid (w4.ownsRow w.heap.size 9 1 v' (k + 1 + 2) (txts (wds (bs.take (k + 1))))) := by
              show World.ownsRow _ _ _ _ _ _ _
              rw [(HM.out k hkn).1, HB.out, ← HD.out, txts_app, show k + 1 + 2 = k + 2 + 1 by omega]
              exact hg9
            have h3 : Hid (w4.ownsRow w.heap.size 3 1 v2 (k + 1) (ints (zsI (bs.take (k + 1))))) := by
              show World.ownsRow _ _ _ _ _ _ _
              rw [(HM.out k hkn).2, HB.out]
              unfold ints at hown4 ⊢
              rw [List.map_append]
              exact hown4
            clear hown4 hgrow4 hg9 HO9 hg3 hB3 hX2
            go_wp2
            go_roundw
            case rel => exact ⟨k + 1, by omega, by go_num, h9.out, h3.out, hB4⟩
            case measure => simp [intOf]; omega
      · obtain rfl : K = j := by omega
        have hdig : strOfNums [48 + (K : Int)] = dig K := by
          rw [dig_one h9, num_byte K hj2]
        have HD : Hid (strOfNums [48 + (K : Int)] = dig K) := hdig
        clear hdig
        have hX : ∀ o0 o1, Below wr.heap.size wr ((wr.alloc o0).alloc o1) := fun o0 o1 => (((Below.refl _ wr).alloc (Nat.le_refl _) o0).alloc (by simp <;> omega) o1)
        have hsz := hBw.size
        go_wp2_with (first | (at_builtin; refine wpList_append_own _ rfl _ _ 22 rfl w.heap.size 9 i9 _ 1 16 Tryd.underlying22 hi9 hy0 hy1 hy2 rfl (by decide) _ (k + 2) (txts (wds (bs.take k))) rfl ((hO9.alloc _).alloc _) ⟨wr.heap.size + 1, 0, none⟩ 1 1 [.string (strOfNums [48 + (K : Int)])] rfl rfl ?_ ?_ ?_ ?_ ?_ ?_))
        · exact (Row.one (by go_simp)).news
        · intro x hx
          rw [List.mem_singleton.1 hx]; rfl
        · unfold maxLen; omega
        · omega
        · simp; omega
        · intro v' w3 hown3 hgrow _
          have hg3 : w3.ownsRow w.heap.size 3 1 u4 k (ints (zsI (bs.take k))) := Lx.own_grown (Lx.own_below hO3 (hX _ _)) (Lx.own_below hO9 (hX _ _)) (by decide) hgrow
          have hB3 : Below w.heap.size w w3 := (hBw.trans ((hX _ _).mono hsz)).grown hgrow (by simp; omega) (fun x hx => (hO9.lt x hx).1)
          have hs3 := hB3.size
          have HO9 : Hid _ := hown3
          clear hown3 hgrow hO9 hO3 hBw hsz hX
          go_wp2_with (first | (at_builtin; refine wpList_append_own _ rfl _ _ 24 rfl w.heap.size 3 i3 _ 1 8 Tryd.underlying24 hi3 hx0 hx1 hx2 rfl (by decide) _ k (ints (zsI (bs.take k))) rfl (hg3.alloc _) ⟨w3.heap.size, 0, none⟩ 1 1 [.int .i64 (K : Int)] rfl rfl ?_ ?_ ?_ ?_ ?_ ?_))
          · exact (Row.one (by go_simp)).news
          · intro x hx
            rw [List.mem_singleton.1 hx]; rfl
          · unfold maxLen; omega
          · omega
          · simp; omega
          · intro v2 w4 hown4 hgrow4 _
            have hX2 : ∀ o, Below w3.heap.size w3 (w3.alloc o) := fun o => (Below.refl _ _).alloc (Nat.le_refl _) o
            have hg9 : w4.ownsRow w.heap.size 9 1 v' (k + 2 + 1) (txts (wds (bs.take k)) ++ [.string (strOfNums [48 + (K : Int)])]) := Lx.own_grown (Lx.own_below HO9.out (hX2 _)) (Lx.own_below hg3 (hX2 _)) (by decide) hgrow4
            have hB4 : Below w.heap.size w w4 := (hB3.alloc hs3 _).grown hgrow4 (by simp; omega) (fun x hx => (hg3.lt x hx).1)
            have h9 : Hid (w4.ownsRow w.heap.size 9 1 v' (k + 1 + 2) (txts (wds (bs.take (k + 1))))) := by
              show World.ownsRow _ _ _ _ _ _ _
              rw [(HM.out k hkn).1, HB.out, ← HD.out, txts_app, show k + 1 + 2 = k + 2 + 1 by omega]
              exact hg9
            have h3 : Hid (w4.ownsRow w.heap.size 3 1 v2 (k + 1) (ints (zsI (bs.take (k + 1))))) := by
              show World.ownsRow _ _ _ _ _ _ _
              rw [(HM.out k hkn).2, HB.out]
              unfold ints at hown4 ⊢
              rw [List.map_append]
              exact hown4
            clear hown4 hgrow4 hg9 HO9 hg3 hB3 hX2
            go_wp2
            go_roundw
            case rel => exact ⟨k + 1, by omega, by go_num, h9.out, h3.out, hB4⟩
            case measure => simp [intOf]; omega
    · obtain rfl : k = N := by omega
      have hW := wds_par bs
      have hlen := HLn.out k (Nat.le_refl _)
      rw [HT.out] at hO9 hO3 hlen
      have HL9 : Hid ((wds bs).length = k + 2 ∧ (zsI bs).length = k) := hlen
      have H9 : Hid _ := hO9
      have H3 : Hid _ := hO3
      obtain ⟨wa, wc, rfl, hRw, _, hwc, _⟩ := Row.of_own hO9
      obtain ⟨za, zc, rfl, hRz, _⟩ := Row.of_own hO3
      have hSz := row_ints hRz
      have hwcm : wc ≤ maxLen := by
        rcases hO9.2 with ⟨h1, h2⟩ | ⟨g, c', cur, h1, h2, h3, h4, h5, _⟩
        · simp only [Value.slice.injEq] at h1
          rw [h1.2.2]; unfold maxLen; omega
        · simp only [Value.slice.injEq] at h1
          rw [h1.2.2]; exact h5
      have hP : ∀ v, Below wr.heap.size wr v → Calls Tryd.prog 7 #[.agg #[.int .i64 1, .slice wa (k + 2) wc]] v fun e w' => Po w' v.heap.size (par (wds bs)) e ∧ Below v.heap.size v w' := by
        intro v hv
        have := Parse_any 1 (wds bs) wa wc aF aZ v ((HE.out.below hBw).below hv) (hRw.below hv) (by rw [HL9.out.1]; omega) (by rw [HL9.out.1]; exact hwc) hwcm (fun y hy => by have := wds_size bs y hy; omega)
        rw [HL9.out.1] at this
        exact this
      have hRt : ∀ r, decide (Sp.Rgt (zsI bs)) = r → ∀ v, Below wr.heap.size wr v → Calls Tryd.prog 8 #[.slice za k zc] v fun e w' => e = .returned (.bool r) ∧ w' = v := fun r hr v hv => right_as za (zsI bs) zc k r v HL9.out.2 (by omega) hr (hSz.below hv)
      have hA : ∀ v, Below w.heap.size w v → Calls Tryd.prog 6 #[] v fun e w' => e = .returned (.bool true) ∧ Below v.heap.size v w' := fun v hv => awake_any aF aZ v (HE.out.below hv)
      have HA : Hid _ := hA
      have HBw : Hid _ := hBw
      have HP : Hid _ := hP
      have HRt : Hid _ := hRt
      have HS3 : Hid _ := hSz
      clear hA hRw hRz hO9 hO3 hwc hwcm hP hRt hSz hlen
      by_cases hR : Sp.Rgt (zsI bs)
      · rw [hW, if_pos hR] at HP
        have HRr : Hid _ := HRt.out true (decide_eq_true hR)
        clear hW HRt
        go_wp2_with fail
        refine (HP.out _ (Below.refl _ _)).mono ?_
        rintro e w1 ⟨⟨u, rfl, hU⟩, hB1⟩
        obtain ⟨ua, ud, ut, rfl, hUa, hUd, hUt⟩ := hU
        obtain ⟨aa, ac, rfl, -⟩ := hUa.form
        obtain ⟨ta, tc, rfl, -⟩ := hUt.form
        obtain ⟨da, dc, rfl, hDd⟩ := hUd.form
        have HB1 : Hid _ := hB1
        have hSm : ∀ v, Below w1.heap.size w1 v → Below wr.heap.size wr v → Calls Tryd.prog 9 #[.slice da (zsI bs).length dc, .slice za k zc] v fun e w' => e = .returned (.bool true) ∧ Sp.Sm v w' := by
          intro v hv hv2
          have h1 : Sp.Sl v da (zsI bs) := fun i hi => by
            obtain ⟨b, off, e, hc⟩ := hDd i hi
            exact ⟨b, off, e, cell_below hv hc⟩
          have h2 : Sp.Sl v za (zsI bs) := fun i hi => by
            obtain ⟨b, off, e, hc⟩ := HS3.out i hi
            exact ⟨b, off, e, cell_below hv2 hc⟩
          have := Sp.same_any da za (zsI bs) (zsI bs) dc zc v (by rw [HL9.out.2]; omega) (by rw [HL9.out.2]; omega) h1 h2
          rw [decide_eq_true rfl] at this
          rw [HL9.out.2] at this ⊢
          exact this
        have HSm : Hid _ := hSm
        clear hB1 HP hUa hUd hUt hDd hSm
        go_wp2_with fail
        refine (HRr.out _ (HB1.out.alloc HB1.out.size _)).mono ?_
        rintro e w2 ⟨rfl, rfl⟩
        clear HRr
        go_wp2_with fail
        refine (HSm.out _ ((Below.refl _ _).alloc (Nat.le_refl _) _) (HB1.out.alloc HB1.out.size _)).mono ?_
        rintro e w2 ⟨rfl, hs2⟩
        have HB2 : Hid (Below w.heap.size w w2) := (HBw.out.trans (HB1.out.mono HBw.out.size)).trans (((Below.refl _ _).alloc (Nat.le_refl _) _ |>.mono (HBw.out.trans (HB1.out.mono HBw.out.size)).size).trans (hs2.below _))
        clear hs2
        go_wp2_with fail
        refine (HA.out _ HB2.out).mono ?_
        rintro e w3 ⟨rfl, hB3⟩
        have HB3 : Hid _ := HB2.out.trans (hB3.mono HB2.out.size)
        clear hB3
        go_wp2
        go_ret
        exact ⟨rfl, HB3.out⟩
      · rw [hW, if_neg hR] at HP
        have HRr : Hid _ := HRt.out false (decide_eq_false hR)
        clear hW HRt
        go_wp2_with fail
        refine (HP.out _ (Below.refl _ _)).mono ?_
        rintro e w1 ⟨rfl, hB1⟩
        have HB1 : Hid _ := hB1
        clear hB1 HP
        go_wp2_with fail
        refine (HRr.out _ (HB1.out.alloc HB1.out.size _)).mono ?_
        rintro e w2 ⟨rfl, rfl⟩
        have HB2 : Hid (Below w.heap.size w (w1.alloc (Obj.cells #[.string ⟨#[]⟩, .string ⟨#[]⟩, .slice none 0 0, .slice none 0 0, .string ⟨#[]⟩, .int .i64 0, .slice none 0 0] 26))) := (HBw.out.trans (HB1.out.mono HBw.out.size)).trans ((Below.refl _ _).alloc (Nat.le_refl _) _ |>.mono (HBw.out.trans (HB1.out.mono HBw.out.size)).size)
        clear HRr
        go_wp2_with fail
        refine (HA.out _ HB2.out).mono ?_
        rintro e w3 ⟨rfl, hB3⟩
        have HB3 : Hid _ := HB2.out.trans (hB3.mono HB2.out.size)
        clear hB3
        go_wp2
        go_ret
        exact ⟨rfl, HB3.out⟩
set_option maxHeartbeats 4000000 in
theorem readDims_any (ao : Option Addr) (bs : List UInt8) (c : Nat) (aF aZ : Addr) (w : World) (hE : Er w aF aZ) (hS : Row w ao (byts bs)) (hcap : bs.length ≤ c) (hcm : c ≤ maxLen) :
    Calls Tryd.prog 4 #[.slice ao bs.length c] w fun e w' => e = .returned (.bool true) ∧ Below w.heap.size w w' := by
  by_cases h10 : bs.length ≤ 10
  · exact readDims_loop ao bs c aF aZ w hE hS h10
  · have HA : Hid (∀ v, Below w.heap.size w v → Calls Tryd.prog 6 #[] v fun e w' => e = .returned (.bool true) ∧ Below v.heap.size v w') := fun v hv => awake_any aF aZ v (hE.below hv)
    clear hS hE
    obtain ⟨N, hN⟩ : ∃ N, bs.length = N := ⟨_, rfl⟩
    rw [hN] at h10 hcap ⊢
    clear hN
    go_enter Tryd.func4, Tryd.ntmps4
    go_wp2_with fail
    refine (HA.out _ (Below.refl _ _)).mono ?_
    rintro e w1 ⟨rfl, hB⟩
    go_wp2
    go_ret
    exact ⟨rfl, hB⟩
end Go.Proofs.YtokfkmncabmmcaaDoor.Rd
