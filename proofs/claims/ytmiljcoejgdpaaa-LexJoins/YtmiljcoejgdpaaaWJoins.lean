/-
  THE WALK OF LexJoins: the call gives true. Conditions: none.
-/
import Derived.Test.YtmiljcoejgdpaaaAw
namespace Go.Proofs.Ytmiljcoejgdpaaa
set_option maxRecDepth 100000
open Go.RowKit
set_option linter.unusedVariables false

theorem count_next (s : ByteArray) (i : Nat) (h : i < s.size) : (s.data.toList.take (i + 1)).count 10 = (s.data.toList.take i).count 10 + (if s[i] = 10 then 1 else 0) := by
  have e : s.data.toList.take (i + 1) = s.data.toList.take i ++ [s[i]] := by
    rw [List.take_add_one, List.getElem?_eq_getElem (show i < s.data.toList.length from h)]
    rfl
  rw [e, List.count_append]
  by_cases c : s[i] = 10
  · rw [c]; simp
  · rw [if_neg c, List.count_cons_of_ne (by simpa using c)]
    rfl

theorem tl_num : ∀ (s : Bt) (n : Nat) (W : List Bt) (w : Bt) (off : Bool), ∀ x ∈ tl n W w off s, x.1 ≤ n + s.length
  | [], n, W, w, off, x, h => by
    rw [tl] at h
    unfold ln1 at h
    split at h
    · simp at h
    · simp at h; subst h; simp
  | b :: s, n, W, w, off, x, h => by
    rw [tl] at h
    split at h
    · rcases List.mem_append.1 h with h | h
      · unfold ln1 at h
        split at h
        · simp at h
        · simp at h; subst h; simp
      · have := tl_num s (n + 1) [] [] false x h
        simp only [List.length_cons]; omega
    · split at h
      · have := tl_num s n (W ++ fl w) [] (off || b == 35) x h
        simp only [List.length_cons]; omega
      · have := tl_num s n W (w ++ [b]) off x h
        simp only [List.length_cons]; omega
theorem lns_num (s : ByteArray) : ∀ x ∈ lns s.data.toList, x.1 ≤ 1 + s.size := fun x hx => tl_num s.data.toList 1 [] [] false x hx

/-- lines of the one kind stand while lines of the other kind grow -/
theorem Ls.kept {w w' : World} {b1 b2 n2 : Nat} {v v2 : Value} {us : List (Nat × Value)} {ls : List (Nat × List Bt)} {x2 : List Value} (h : Ls w b1 33 v us ls) (h2 : w.ownsRow b2 34 2 v2 n2 x2) (hg : w.grownBy w' v2.ownBlock) : Ls w' b1 33 v us ls :=
  ⟨own_grown h.own h2 (by decide) hg, h.all.mono fun u ws hu => own_grown hu h2 (by decide) hg⟩

theorem lexJoins_any (a b : ByteArray) (w : World) : Calls Try.prog 5 #[.string a, .string b] w fun e w' => e = .returned (.bool true) ∧ Below w.heap.size w w' := by
  by_cases hg : 1024 < a.size
  · go_enter Try.func5, Try.ntmps5
    go_wp2_with fail
    refine (awake_any _).mono ?_
    rintro e w1 ⟨rfl, hB⟩
    go_wp2
    go_ret
    exact ⟨rfl, hB⟩
  by_cases hc : 1024 < b.size
  · go_enter Try.func5, Try.ntmps5
    go_wp2_with fail
    refine (awake_any _).mono ?_
    rintro e w1 ⟨rfl, hB⟩
    go_wp2
    go_ret
    exact ⟨rfl, hB⟩
  obtain ⟨i0, hi, hz0, hz1, hz2⟩ := info_parts inf34
  have k1 : ∀ w, Calls Try.prog 11 #[.string a] w _ := fun w => both_any a w (by omega)
  have k2 : ∀ w, Calls Try.prog 11 #[.string b] w _ := fun w => lines_any b w (by omega)
  go_enter Try.func5, Try.ntmps5
  go_wp2_with fail
  go_loop [5, 21] (fun v i => ∃ q : Nat, i = .int .i64 (q : Int) ∧ v = .int .i64 (1 + ((a.data.toList.take q).count 10 : Int)) ∧ q ≤ a.size ∧ (a.data.toList.take q).count 10 ≤ q) (fun _ i => a.size - (intOf i).toNat)
  case atStart => exact ⟨0, rfl, rfl, by omega, by simp⟩
  case round =>
    obtain ⟨q, rfl, rfl, hq, hcn⟩ := hrel
    by_cases hqc : q < a.size
    · have hn := count_next a q hqc
      by_cases h10 : a[q] = 10
      · have b10 : (((a[q].toNat : Nat) : Int) == 10) = true := byte_eq _ h10 rfl
        rw [if_pos h10] at hn
        clear h10
        have HN : Hid _ := hn
        clear hn
        generalize (a.data.toList.take q).count 10 = k at hcn HN ⊢
        go_wp2
        go_round
        case rel => exact ⟨q + 1, by go_num, by rw [HN.out]; go_num, by omega, by rw [HN.out]; omega⟩
        case measure => simp [intOf]; omega
      · have b10 : (((a[q].toNat : Nat) : Int) == 10) = false := byte_ne _ h10 rfl
        rw [if_neg h10] at hn
        clear h10
        have HN : Hid _ := hn
        clear hn
        generalize (a.data.toList.take q).count 10 = k at hcn HN ⊢
        go_wp2
        go_round
        case rel => exact ⟨q + 1, by go_num, by rw [HN.out]; rfl, by omega, by rw [HN.out]; omega⟩
        case measure => simp [intOf]; omega
    · obtain rfl : q = a.size := by omega
      have e1 : a.data.toList.take a.size = a.data.toList := List.take_of_length_le (Nat.le_refl _)
      rw [e1] at hcn ⊢
      have HC : Hid ((lns (a ++ (⟨#[10]⟩ : ByteArray) ++ b).data.toList) = lns a.data.toList ++ (lns b.data.toList).map (far (1 + a.data.toList.count 10))) := by
        have e2 : (a ++ (⟨#[10]⟩ : ByteArray) ++ b).data.toList = a.data.toList ++ 10 :: b.data.toList := by
          rw [app_list, app_list, List.append_assoc]; rfl
        show lns _ = _
        rw [e2]
        exact lns_join _ _
      generalize a.data.toList.count 10 = m at hcn HC ⊢
      clear e1 hqc hq
      go_wp2_with fail
      refine (k1 _).mono ?_
      rintro e w1 ⟨v, rfl, hB1, h1⟩
      clear k1
      go_wp2_with fail
      refine (h1 _ (Below.refl _ _)).mono ?_
      rintro e w2 ⟨va, ua, rfl, hA, hB2⟩
      clear h1
      go_wp2_with fail
      refine (k2 _).mono ?_
      rintro e w3 ⟨vb, ub, rfl, hL, hB3⟩
      clear k2
      obtain ⟨ao, cap, rfl, _, _⟩ := hL.form
      obtain ⟨LA, hLA⟩ : ∃ L, lns a.data.toList = L := ⟨_, rfl⟩
      obtain ⟨LB, hLB⟩ : ∃ L, lns b.data.toList = L := ⟨_, rfl⟩
      have hal : LA.length ≤ 1025 := by rw [← hLA]; have := lns_len a; omega
      have hbl : LB.length ≤ 1025 := by rw [← hLB]; have := lns_len b; omega
      have HNB : Hid (∀ x ∈ LB, x.1 ≤ 1025) := by
        intro x hx
        rw [← hLB] at hx
        have := lns_num b x hx
        omega
      rw [hLA] at hA HC
      rw [hLB] at hL HC ⊢
      clear hLA hLB
      have hA3 := hA.below hB3
      have hA4 : Ls w3 w.heap.size 34 va ua LA := hA3.mono hB1.size
      have hB : Below w.heap.size w w3 := hB1.trans ((hB2.trans (hB3.mono hB2.size)).mono hB1.size)
      clear hA hA3 hB1 hB2 hB3
      have HLB : Hid (Ls w3 w2.heap.size 33 (.slice ao LB.length cap) ub LB) := hL
      clear hL
      obtain ⟨N, hN⟩ : ∃ N, LB.length = N := ⟨_, rfl⟩
      have HN : Hid (LB.length = N) := hN
      rw [hN] at hbl ⊢
      clear hN
      go_wp2_with fail
      go_loopw [7, 37] (fun o i wr => ∃ (k : Nat) (us' : List (Nat × Value)), k ≤ N ∧ i = .int .i64 (k : Int) ∧ Ls wr w.heap.size 34 o us' (LA ++ (LB.take k).map (far (1 + m))) ∧ Hid (Ls wr w2.heap.size 33 (.slice ao LB.length cap) ub LB) ∧ Below w.heap.size w wr) (fun _ i _ => N - (intOf i).toNat)
      case atStart => exact ⟨0, ua, Nat.zero_le _, rfl, by simpa using hA4, HLB, hB⟩
      case round =>
        obtain ⟨k, us', hk, rfl, hO, HL, hBw⟩ := hrel
        by_cases hkn : k < N
        · obtain ⟨⟨n, ws⟩, hx⟩ := getE LB k (by rw [HN.out]; exact hkn)
          have hnn := HNB.out _ (List.mem_of_getElem? hx)
          simp only at hnn
          obtain ⟨g, cap', u, hv, hc1, hc2, how, hg⟩ := HL.out.get hx
          obtain ⟨rfl, rfl⟩ : ao = some ⟨g, 0, none⟩ ∧ cap = cap' := by simpa using hv
          clear hv
          have HT : Hid (LA ++ (LB.take (k + 1)).map (far (1 + m)) = LA ++ (LB.take k).map (far (1 + m)) ++ [(n + (1 + m), ws)]) := by
            show _ = _
            rw [take_more _ _ _ hx, List.map_append, List.append_assoc]
            rfl
          clear hx
          have hlk : (LA ++ (LB.take k).map (far (1 + m))).length = LA.length + k := by rw [List.length_append, List.length_map, List.length_take, HN.out]; omega
          have hu1 := one_cell_ow how
          obtain ⟨ao2, cap2, rfl, _, _⟩ := how.form
          have HO : Hid (Ls wr w.heap.size 34 _ us' (LA ++ (LB.take k).map (far (1 + m)))) := hO
          have hown := hO.own
          rw [hlk] at hown
          clear hO
          have hsz := hBw.size
          go_wp2_with (first | (at_builtin; refine wpList_append_own _ rfl _ _ 24 rfl w.heap.size 34 i0 _ 2 32 Try.underlying24 hi hz0 hz1 hz2 rfl (by decide) _ (LA.length + k) (flat us') rfl ((hown.alloc _).alloc _) ⟨wr.heap.size + 1, 0, none⟩ 1 1 [.int .i64 ((n : Int) + (1 + (m : Int))), .slice ao2 ws.length cap2] rfl rfl ?_ ?_ ?_ ?_ ?_ ?_))
          · exact (Row.two (by go_simp) (by go_simp)).news
          · intro x hx
            rcases List.mem_cons.1 hx with rfl | hx
            · rfl
            · rw [List.mem_singleton.1 hx]; exact hu1
          · unfold maxLen; omega
          · omega
          · simp; omega
          · intro v' w5 hown5 hgrow _
            have hown6 : w5.ownsRow w.heap.size 34 2 v' ((LA ++ (LB.take k).map (far (1 + m))).length + 1) (flat us' ++ [.int .i64 ((n + (1 + m) : Nat) : Int), .slice ao2 ws.length cap2]) := by
              rw [hlk, show ((n + (1 + m) : Nat) : Int) = (n : Int) + (1 + (m : Int)) by omega]
              exact hown5
            have hX : ∀ o1 o2, Below wr.heap.size wr ((wr.alloc o1).alloc o2) := fun o1 o2 => ((Below.refl _ wr).alloc (Nat.le_refl _) o1).alloc (by simp) o2
            have hL5 := (HO.out.below (hX _ _)).snoc (how.below (hX _ _)) (by decide) (n := n + (1 + m)) hown6 hgrow
            have hL6 := (HL.out.below (hX _ _)).kept ((hown.alloc _).alloc _) hgrow
            have hB5 : Below w.heap.size w w5 := ((hBw.alloc hsz _).alloc (by simp; omega) _).grown hgrow (by simp; omega) (fun x hx => (hown.lt x hx).1)
            rw [← HT.out] at hL5
            have HL6 : Hid (Ls w5 w2.heap.size 33 (.slice (some ⟨g, 0, none⟩) LB.length cap) ub LB) := hL6
            clear hown5 hown6 hgrow hX HO HL hBw how hc1 hc2 hown hL6
            go_wp2
            go_roundw
            case rel => exact ⟨k + 1, _, by omega, by go_num, hL5, HL6, hB5⟩
            case measure => simp [intOf]; omega
        · obtain rfl : k = N := by omega
          have e : LB.take k = LB := List.take_of_length_le (by rw [HN.out]; exact Nat.le_refl _)
          rw [e, ← HC.out] at hO
          clear e HL HLB HC HN HNB hB hA4
          have k3 : ∀ (t : ByteArray) w, t.size ≤ 100000 → Calls Try.prog 11 #[.string t] w _ := fun t w h => both_any t w h
          have hbs : (a ++ (⟨#[10]⟩ : ByteArray) ++ b).size = a.size + 1 + b.size := by rw [size_app, size_app]; rfl
          go_wp2_with fail
          have hbl : (a ++ (⟨#[10]⟩ : ByteArray) ++ b).size ≤ 100000 := by rw [hbs]; omega
          generalize a ++ (⟨#[10]⟩ : ByteArray) ++ b = t at hO hbl hbs ⊢
          refine (k3 t _ hbl).mono ?_
          rintro e w4 ⟨v2, rfl, hB4, h2⟩
          clear k3
          go_wp2_with fail
          refine (h2 _ (Below.refl _ _)).mono ?_
          rintro e w5 ⟨vt, ut, rfl, hT, hB5⟩
          clear h2
          go_wp2_with fail
          refine (same_any vt _ ut us' t _ _ _ _ hbl hT ((hO.below hB4).below hB5) rfl).mono ?_
          rintro e w6 ⟨rfl, hB6⟩
          clear hT hO
          go_wp2_with fail
          refine (awake_any _).mono ?_
          rintro e w7 ⟨rfl, hB7⟩
          go_wp2
          go_ret
          exact ⟨by simp, hBw.trans ((hB4.trans ((hB5.trans ((hB6.trans (hB7.mono hB6.size)).mono hB5.size)).mono hB4.size)).mono hBw.size)⟩
end Go.Proofs.Ytmiljcoejgdpaaa
