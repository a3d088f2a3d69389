/-
  THE DOCUMENT's LINES OF ANY TEXT. Conditions: each theorem's own.
-/
import Derived.Test.YtokfkmncabmmcaaGreatDoorRf
import Derived.Test.YtokfkmncabmmcaaGreatDoorNam
import Derived.Test.YtokfkmncabmmcaaGreatDoorSt
namespace Go.Proofs.YtokfkmncabmmcaaGreatDoor.Lx
set_option maxRecDepth 100000
open Go.RowKit
set_option linter.unusedVariables false

theorem app_list (a b : ByteArray) : (a ++ b).data.toList = a.data.toList ++ b.data.toList := by
  cases a; cases b; simp
theorem drop_at (s : ByteArray) (i : Nat) (h : i < s.size) : s.data.toList.drop i = s[i] :: s.data.toList.drop (i + 1) := by
  rw [drop_cons _ i h, at_data s i h]
theorem one_at (s : ByteArray) (i : Nat) (h : i < s.size) : (s.extract i (i + 1)).data.toList = [s[i]] := by
  rw [extract_list, drop_at s i h, show i + 1 - i = 1 by omega]
  rfl
theorem size_app (a b : ByteArray) : (a ++ b).size = a.size + b.size := by
  have h1 : (a ++ b).data.toList.length = (a ++ b).size := rfl
  have h2 : a.data.toList.length = a.size := rfl
  have h3 : b.data.toList.length = b.size := rfl
  rw [← h1, app_list, List.length_append, h2, h3]
theorem size_one (s : ByteArray) (i : Nat) (h : i < s.size) : (s.extract i (i + 1)).size = 1 := by
  have h1 : (s.extract i (i + 1)).data.toList.length = (s.extract i (i + 1)).size := rfl
  rw [← h1, one_at s i h]; rfl
theorem empty_list {a : ByteArray} (h : a.size = 0) : a.data.toList = [] := List.length_eq_zero_iff.1 h
theorem ne_list {a : ByteArray} (h : 0 < a.size) : a.data.toList ≠ [] := fun e => by
  have h1 : a.data.toList.length = a.size := rfl
  rw [e] at h1
  simp at h1
  omega
theorem byte_eq {b c : UInt8} (n : Int) (h : b = c) (hn : ((c.toNat : Nat) : Int) = n) : (((b.toNat : Nat) : Int) == n) = true := by subst h; simpa using hn
theorem byte_ne {b c : UInt8} (n : Int) (h : b ≠ c) (hn : ((c.toNat : Nat) : Int) = n) : (((b.toNat : Nat) : Int) == n) = false := by
  simp only [beq_eq_false_iff_ne, ne_eq]
  intro e
  exact h (UInt8.toNat_inj.1 (by omega))

set_option maxHeartbeats 4000000 in
theorem refLines_any (s : ByteArray) (w : World) (hs : s.size ≤ 100000) : Calls Tryz.prog 10 #[.string s] w fun e w' => ∃ v us, e = .returned v ∧ Ls w' w.heap.size 42 v us (lns s.data.toList) ∧ Below w.heap.size w w' := by
  obtain ⟨R, hR⟩ : ∃ R, lns s.data.toList = R := ⟨_, rfl⟩
  have HR : Hid (tl 1 [] [] false (s.data.toList.drop 0) = R) := by rw [List.drop_zero]; exact hR
  rw [hR]
  clear hR
  obtain ⟨i0, hi, hz0, hz1, hz2⟩ := info_parts inf34
  obtain ⟨i9, hi9, hy0, hy1, hy2⟩ := info_parts inf9
  go_enter Tryz.func10, Tryz.ntmps10
  go_wp2_with fail
  go_loopw [3, 4, 5, 6, 7, 8] (fun v u wd n of i wr => ∃ (q : Nat) (B : Nat) (us : List (Nat × Value)) (ls : List (Nat × List Bt)) (W : List Bt) (x : ByteArray) (k : Nat) (o : Bool), (q ≤ s.size + 1 ∧ k ≤ q ∧ ls.length ≤ q ∧ W.length ≤ q ∧ x.size ≤ q ∧ i = .int .i64 (q : Int) ∧ wd = .string x ∧ n = .int .i64 ((k : Int) + 1) ∧ of = .bool o) ∧
    Hid (St w wr B v u us ls W) ∧ Hid (q ≤ s.size → ls ++ tl (k + 1) W x.data.toList o (s.data.toList.drop q) = R) ∧ Hid (q = s.size + 1 → ls = R) ∧ (o = true → x.size = 0)) (fun _ _ _ _ _ i _ => s.size + 1 - (intOf i).toNat)
  case atStart => exact ⟨0, w.heap.size, [], [], [], ⟨#[]⟩, 0, false, ⟨by omega, by omega, by simp, by simp, Nat.le_refl _, rfl, rfl, rfl, rfl⟩, St.start w, fun _ => HR.out, fun h => absurd h (by omega), fun h => by cases h⟩
  case round =>
    obtain ⟨q, B, us, ls, W, x, k, o, ⟨hq, hk, hls, hWl, hxl, rfl, rfl, rfl, rfl⟩, HS, HT, HE, hox⟩ := hrel
    by_cases hend : q = s.size + 1
    · obtain rfl : ls = R := HE.out hend
      obtain ⟨hL, hB⟩ := And.intro HS.out.out HS.out.bel
      have c1 : ¬ ((q : Int) ≤ (s.size : Int)) := by omega
      clear HS HT HE
      go_wp2
      go_ret
      exact ⟨_, rfl, ⟨_, hL⟩, hB⟩
    · have hq1 : q ≤ s.size := by omega
      have c1 : (q : Int) ≤ (s.size : Int) := by omega
      have HT1 : Hid (ls ++ tl (k + 1) W x.data.toList o (s.data.toList.drop q) = R) := HT.out hq1
      clear HT HE
      by_cases hqe : q = s.size
      · have HQ : Hid (ls ++ ln1 (k + 1) (W ++ fl x.data.toList) = R) := by
          have h := HT1.out
          rw [hqe, List.drop_eq_nil_of_le (show s.data.toList.length ≤ s.size from Nat.le_refl _), tl] at h
          exact h
        have HD : Hid True := True.intro
        have c2 : ((q : Int) == (s.size : Int)) = true := by simp; omega
        by_cases hx0 : 0 < x.size
        · have HL : Hid ((ls ++ [(k + 1, W ++ [x.data.toList])]) = R) := by
            have h := HQ.out
            rw [fl_ne (ne_list hx0), ln1_ne (by simp)] at h
            exact h
          clear HT1 HQ HD
          go_wp2_with (first | (at_builtin; refine wpList_append_own _ rfl _ _ 22 rfl B 9 i9 _ 1 16 Tryz.underlying22 hi9 hy0 hy1 hy2 rfl (by decide) _ W.length (wv W) rfl (HS.out.wds.alloc _) ⟨wr.heap.size, 0, none⟩ 1 1 [.string x] rfl rfl ?_ ?_ ?_ ?_ ?_ ?_))
          · exact (Row.one (by go_simp)).news
          · intro y hy
            rw [List.mem_singleton.1 hy]; rfl
          · unfold maxLen; omega
          · omega
          · have := HS.out.big; simp; omega
          intro u' w3 hown3 hgrow _
          have HS3 : Hid (St w w3 B _ u' us ls (W ++ [x.data.toList])) := (HS.out.alloc _).word x hown3 hgrow
          clear hown3 hgrow HS
          obtain ⟨ao, n, cap, rfl, hn⟩ := HS3.out.form
          have hn0 : 0 < n ∧ n ≤ q + 1 := by rw [hn]; constructor <;> first | omega | (simp; done) | (simp; omega)
          clear hn
          go_wp2_with (first | (at_builtin; refine wpList_append_own _ rfl _ _ 40 rfl w.heap.size 42 i0 _ 2 32 Tryz.underlying40 hi hz0 hz1 hz2 rfl (by decide) _ ls.length (flat us) rfl (HS3.out.out.own.alloc _) ⟨w3.heap.size, 0, none⟩ 1 1 [.int .i64 ((k : Int) + 1), .slice ao n cap] rfl rfl ?_ ?_ ?_ ?_ ?_ ?_))
          · exact (Row.two (by go_simp) (by go_simp)).news
          · intro y hy
            rcases List.mem_cons.1 hy with rfl | hy
            · rfl
            · rw [List.mem_singleton.1 hy]; rfl
          · unfold maxLen; omega
          · omega
          · have := Nat.le_trans HS3.out.low HS3.out.big; simp; omega
          intro v' w4 hown4 hgrow _
          have HS4 : Hid (St w w4 w4.heap.size v' (.slice none 0 0) (us ++ [(k + 1, .slice ao n cap)]) (ls ++ [(k + 1, W ++ [x.data.toList])]) []) := (HS3.out.alloc _).line (k + 1) hown4 hgrow
          clear hown4 hgrow HS3
          go_wp2
          go_roundw
          case rel =>
            refine ⟨q + 1, _, _, (ls ++ [(k + 1, W ++ [x.data.toList])]), [], ⟨#[]⟩, k + 1, false, ⟨by omega, by omega, ?_, ?_, ?_, by go_num, rfl, by go_num, rfl⟩, HS4, fun h => absurd h (by omega), fun _ => HL.out, fun h => by cases h⟩
            · first | omega | exact Nat.zero_le _ | (simp; done) | (simp; omega)
            · first | omega | exact Nat.zero_le _ | (simp; done) | (simp; omega)
            · first | omega | exact Nat.zero_le _ | (simp; done) | (simp; omega)
          case measure => simp [intOf]; omega
        · have hx1 : x.size = 0 := by omega
          by_cases hW : 0 < W.length
          · have HL : Hid ((ls ++ [(k + 1, W)]) = R) := by
              have h := HQ.out
              rw [empty_list hx1, fl_nil, List.append_nil, ln1_ne (by intro e; subst e; simp at hW)] at h
              exact h
            clear HT1 HQ HD
            obtain ⟨ao, n, cap, rfl, hn⟩ := HS.out.form
            have hn0 : 0 < n ∧ n ≤ q + 1 := by rw [hn]; constructor <;> first | omega | (simp; done) | (simp; omega)
            clear hn
            go_wp2_with (first | (at_builtin; refine wpList_append_own _ rfl _ _ 40 rfl w.heap.size 42 i0 _ 2 32 Tryz.underlying40 hi hz0 hz1 hz2 rfl (by decide) _ ls.length (flat us) rfl (HS.out.out.own.alloc _) ⟨wr.heap.size, 0, none⟩ 1 1 [.int .i64 ((k : Int) + 1), .slice ao n cap] rfl rfl ?_ ?_ ?_ ?_ ?_ ?_))
            · exact (Row.two (by go_simp) (by go_simp)).news
            · intro y hy
              rcases List.mem_cons.1 hy with rfl | hy
              · rfl
              · rw [List.mem_singleton.1 hy]; rfl
            · unfold maxLen; omega
            · omega
            · have := Nat.le_trans HS.out.low HS.out.big; simp; omega
            intro v' w4 hown4 hgrow _
            have HS4 : Hid (St w w4 w4.heap.size v' (.slice none 0 0) (us ++ [(k + 1, .slice ao n cap)]) (ls ++ [(k + 1, W)]) []) := (HS.out.alloc _).line (k + 1) hown4 hgrow
            clear hown4 hgrow HS
            go_wp2
            go_roundw
            case rel =>
              refine ⟨q + 1, _, _, (ls ++ [(k + 1, W)]), [], ⟨#[]⟩, k + 1, false, ⟨by omega, by omega, ?_, ?_, ?_, by go_num, rfl, by go_num, rfl⟩, HS4, fun h => absurd h (by omega), fun _ => HL.out, fun h => by cases h⟩
              · first | omega | exact Nat.zero_le _ | (simp; done) | (simp; omega)
              · first | omega | exact Nat.zero_le _ | (simp; done) | (simp; omega)
              · first | omega | exact Nat.zero_le _ | (simp; done) | (simp; omega)
            case measure => simp [intOf]; omega
          · obtain rfl : W = [] := by
              cases W with
              | nil => rfl
              | cons y l => simp at hW
            have HL : Hid (ls = R) := by
              have h := HQ.out
              rw [empty_list hx1, fl_nil, List.append_nil, ln1_nil] at h
              have h1 : ls = R := by simpa using h
              exact h1
            clear HT1 HQ HD
            obtain ⟨ao, n, cap, rfl, hn⟩ := HS.out.form
            obtain rfl : n = 0 := hn
            have HS4 : Hid (St w wr wr.heap.size _ (.slice none 0 0) us ls []) := HS.out.none
            clear HS
            go_wp2
            go_roundw
            case rel =>
              refine ⟨q + 1, _, us, ls, [], ⟨#[]⟩, k + 1, false, ⟨by omega, by omega, ?_, ?_, ?_, by go_num, rfl, by go_num, rfl⟩, HS4, fun h => absurd h (by omega), fun _ => HL.out, fun h => by cases h⟩
              · first | omega | exact Nat.zero_le _ | (simp; done) | (simp; omega)
              · first | omega | exact Nat.zero_le _ | (simp; done) | (simp; omega)
              · first | omega | exact Nat.zero_le _ | (simp; done) | (simp; omega)
            case measure => simp [intOf]; omega
      · have hql : q < s.size := by omega
        have c2 : ((q : Int) == (s.size : Int)) = false := by simp; omega
        have HD : Hid (s.data.toList.drop q = s[q] :: s.data.toList.drop (q + 1)) := drop_at s q hql
        by_cases h10 : s[q] = 10
        · have b10 : (((s[q].toNat : Nat) : Int) == 10) = true := byte_eq _ h10 rfl
          have HQ : Hid (ls ++ (ln1 (k + 1) (W ++ fl x.data.toList) ++ tl (k + 1 + 1) [] [] false (s.data.toList.drop (q + 1))) = R) := by
            have h := HT1.out
            rw [HD.out, tl, if_pos h10] at h
            exact h
          by_cases hx0 : 0 < x.size
          · have HL : Hid ((ls ++ [(k + 1, W ++ [x.data.toList])]) ++ tl (k + 1 + 1) [] [] false (s.data.toList.drop (q + 1)) = R) := by
              have h := HQ.out
              rw [fl_ne (ne_list hx0), ln1_ne (by simp)] at h
              rw [List.append_assoc]; exact h
            clear HT1 HQ HD
            go_wp2_with (first | (at_builtin; refine wpList_append_own _ rfl _ _ 22 rfl B 9 i9 _ 1 16 Tryz.underlying22 hi9 hy0 hy1 hy2 rfl (by decide) _ W.length (wv W) rfl (HS.out.wds.alloc _) ⟨wr.heap.size, 0, none⟩ 1 1 [.string x] rfl rfl ?_ ?_ ?_ ?_ ?_ ?_))
            · exact (Row.one (by go_simp)).news
            · intro y hy
              rw [List.mem_singleton.1 hy]; rfl
            · unfold maxLen; omega
            · omega
            · have := HS.out.big; simp; omega
            intro u' w3 hown3 hgrow _
            have HS3 : Hid (St w w3 B _ u' us ls (W ++ [x.data.toList])) := (HS.out.alloc _).word x hown3 hgrow
            clear hown3 hgrow HS
            obtain ⟨ao, n, cap, rfl, hn⟩ := HS3.out.form
            have hn0 : 0 < n ∧ n ≤ q + 1 := by rw [hn]; constructor <;> first | omega | (simp; done) | (simp; omega)
            clear hn
            go_wp2_with (first | (at_builtin; refine wpList_append_own _ rfl _ _ 40 rfl w.heap.size 42 i0 _ 2 32 Tryz.underlying40 hi hz0 hz1 hz2 rfl (by decide) _ ls.length (flat us) rfl (HS3.out.out.own.alloc _) ⟨w3.heap.size, 0, none⟩ 1 1 [.int .i64 ((k : Int) + 1), .slice ao n cap] rfl rfl ?_ ?_ ?_ ?_ ?_ ?_))
            · exact (Row.two (by go_simp) (by go_simp)).news
            · intro y hy
              rcases List.mem_cons.1 hy with rfl | hy
              · rfl
              · rw [List.mem_singleton.1 hy]; rfl
            · unfold maxLen; omega
            · omega
            · have := Nat.le_trans HS3.out.low HS3.out.big; simp; omega
            intro v' w4 hown4 hgrow _
            have HS4 : Hid (St w w4 w4.heap.size v' (.slice none 0 0) (us ++ [(k + 1, .slice ao n cap)]) (ls ++ [(k + 1, W ++ [x.data.toList])]) []) := (HS3.out.alloc _).line (k + 1) hown4 hgrow
            clear hown4 hgrow HS3
            go_wp2
            go_roundw
            case rel =>
              refine ⟨q + 1, _, _, (ls ++ [(k + 1, W ++ [x.data.toList])]), [], ⟨#[]⟩, k + 1, false, ⟨by omega, by omega, ?_, ?_, ?_, by go_num, rfl, by go_num, rfl⟩, HS4, fun _ => HL.out, fun h => absurd h (by omega), fun h => by cases h⟩
              · first | omega | exact Nat.zero_le _ | (simp; done) | (simp; omega)
              · first | omega | exact Nat.zero_le _ | (simp; done) | (simp; omega)
              · first | omega | exact Nat.zero_le _ | (simp; done) | (simp; omega)
            case measure => simp [intOf]; omega
          · have hx1 : x.size = 0 := by omega
            by_cases hW : 0 < W.length
            · have HL : Hid ((ls ++ [(k + 1, W)]) ++ tl (k + 1 + 1) [] [] false (s.data.toList.drop (q + 1)) = R) := by
                have h := HQ.out
                rw [empty_list hx1, fl_nil, List.append_nil, ln1_ne (by intro e; subst e; simp at hW)] at h
                rw [List.append_assoc]; exact h
              clear HT1 HQ HD
              obtain ⟨ao, n, cap, rfl, hn⟩ := HS.out.form
              have hn0 : 0 < n ∧ n ≤ q + 1 := by rw [hn]; constructor <;> first | omega | (simp; done) | (simp; omega)
              clear hn
              go_wp2_with (first | (at_builtin; refine wpList_append_own _ rfl _ _ 40 rfl w.heap.size 42 i0 _ 2 32 Tryz.underlying40 hi hz0 hz1 hz2 rfl (by decide) _ ls.length (flat us) rfl (HS.out.out.own.alloc _) ⟨wr.heap.size, 0, none⟩ 1 1 [.int .i64 ((k : Int) + 1), .slice ao n cap] rfl rfl ?_ ?_ ?_ ?_ ?_ ?_))
              · exact (Row.two (by go_simp) (by go_simp)).news
              · intro y hy
                rcases List.mem_cons.1 hy with rfl | hy
                · rfl
                · rw [List.mem_singleton.1 hy]; rfl
              · unfold maxLen; omega
              · omega
              · have := Nat.le_trans HS.out.low HS.out.big; simp; omega
              intro v' w4 hown4 hgrow _
              have HS4 : Hid (St w w4 w4.heap.size v' (.slice none 0 0) (us ++ [(k + 1, .slice ao n cap)]) (ls ++ [(k + 1, W)]) []) := (HS.out.alloc _).line (k + 1) hown4 hgrow
              clear hown4 hgrow HS
              go_wp2
              go_roundw
              case rel =>
                refine ⟨q + 1, _, _, (ls ++ [(k + 1, W)]), [], ⟨#[]⟩, k + 1, false, ⟨by omega, by omega, ?_, ?_, ?_, by go_num, rfl, by go_num, rfl⟩, HS4, fun _ => HL.out, fun h => absurd h (by omega), fun h => by cases h⟩
                · first | omega | exact Nat.zero_le _ | (simp; done) | (simp; omega)
                · first | omega | exact Nat.zero_le _ | (simp; done) | (simp; omega)
                · first | omega | exact Nat.zero_le _ | (simp; done) | (simp; omega)
              case measure => simp [intOf]; omega
            · obtain rfl : W = [] := by
                cases W with
                | nil => rfl
                | cons y l => simp at hW
              have HL : Hid (ls ++ tl (k + 1 + 1) [] [] false (s.data.toList.drop (q + 1)) = R) := by
                have h := HQ.out
                rw [empty_list hx1, fl_nil, List.append_nil, ln1_nil] at h
                have h1 : ls ++ tl (k + 1 + 1) [] [] false (s.data.toList.drop (q + 1)) = R := by simpa using h
                exact h1
              clear HT1 HQ HD
              obtain ⟨ao, n, cap, rfl, hn⟩ := HS.out.form
              obtain rfl : n = 0 := hn
              have HS4 : Hid (St w wr wr.heap.size _ (.slice none 0 0) us ls []) := HS.out.none
              clear HS
              go_wp2
              go_roundw
              case rel =>
                refine ⟨q + 1, _, us, ls, [], ⟨#[]⟩, k + 1, false, ⟨by omega, by omega, ?_, ?_, ?_, by go_num, rfl, by go_num, rfl⟩, HS4, fun _ => HL.out, fun h => absurd h (by omega), fun h => by cases h⟩
                · first | omega | exact Nat.zero_le _ | (simp; done) | (simp; omega)
                · first | omega | exact Nat.zero_le _ | (simp; done) | (simp; omega)
                · first | omega | exact Nat.zero_le _ | (simp; done) | (simp; omega)
              case measure => simp [intOf]; omega
        · have b10 : (((s[q].toNat : Nat) : Int) == 10) = false := byte_ne _ h10 rfl
          cases o with
          | true =>
            have hx1 : x.size = 0 := hox rfl
            have HQ : Hid (ls ++ tl (k + 1) (W ++ fl x.data.toList) [] true (s.data.toList.drop (q + 1)) = R) := by
              have h := HT1.out
              rw [HD.out, tl, if_neg h10, if_pos (Or.inl rfl)] at h
              exact h
            by_cases h35 : s[q] = 35
            · have b35 : (((s[q].toNat : Nat) : Int) == 35) = true := byte_eq _ h35 rfl
              clear h35
              have HL : Hid (ls ++ tl (k + 1) W [] true (s.data.toList.drop (q + 1)) = R) := by
                have h := HQ.out
                rw [empty_list hx1, fl_nil, List.append_nil] at h
                exact h
              clear HT1 HQ HD
              go_wp2
              go_roundw
              case rel =>
                refine ⟨q + 1, _, us, ls, W, ⟨#[]⟩, k, true, ⟨by omega, by omega, ?_, ?_, ?_, by go_num, rfl, by go_num, rfl⟩, HS, fun _ => HL.out, fun h => absurd h (by omega), fun _ => rfl⟩
                · first | omega | exact Nat.zero_le _ | (simp; done) | (simp; omega)
                · first | omega | exact Nat.zero_le _ | (simp; done) | (simp; omega)
                · first | omega | exact Nat.zero_le _ | (simp; done) | (simp; omega)
              case measure => simp [intOf]; omega
            · have b35 : (((s[q].toNat : Nat) : Int) == 35) = false := byte_ne _ h35 rfl
              have HL : Hid (ls ++ tl (k + 1) W [] true (s.data.toList.drop (q + 1)) = R) := by
                have h := HQ.out
                rw [empty_list hx1, fl_nil, List.append_nil] at h
                exact h
              clear HT1 HQ HD
              go_wp2
              go_roundw
              case rel =>
                refine ⟨q + 1, _, us, ls, W, ⟨#[]⟩, k, true, ⟨by omega, by omega, ?_, ?_, ?_, by go_num, rfl, by go_num, rfl⟩, HS, fun _ => HL.out, fun h => absurd h (by omega), fun _ => rfl⟩
                · first | omega | exact Nat.zero_le _ | (simp; done) | (simp; omega)
                · first | omega | exact Nat.zero_le _ | (simp; done) | (simp; omega)
                · first | omega | exact Nat.zero_le _ | (simp; done) | (simp; omega)
              case measure => simp [intOf]; omega
          | false =>
            by_cases h32 : s[q] = 32
            · have b32 : (((s[q].toNat : Nat) : Int) == 32) = true := byte_eq _ h32 rfl
              have h35 : ¬ s[q] = 35 := by rw [h32]; decide
              have b35 : (((s[q].toNat : Nat) : Int) == 35) = false := byte_ne _ h35 rfl
              have HQ : Hid (ls ++ tl (k + 1) (W ++ fl x.data.toList) [] false (s.data.toList.drop (q + 1)) = R) := by
                have h := HT1.out
                have e : (false || s[q] == 35) = false := by rw [h32]; rfl
                rw [HD.out, tl, if_neg h10, if_pos (Or.inr (Or.inl h32)), e] at h
                exact h
              clear h32 h35
              by_cases hx0 : 0 < x.size
              · have HL : Hid (ls ++ tl (k + 1) (W ++ [x.data.toList]) [] false (s.data.toList.drop (q + 1)) = R) := by
                  have h := HQ.out
                  rw [fl_ne (ne_list hx0)] at h
                  exact h
                clear HT1 HQ HD
                go_wp2_with (first | (at_builtin; refine wpList_append_own _ rfl _ _ 22 rfl B 9 i9 _ 1 16 Tryz.underlying22 hi9 hy0 hy1 hy2 rfl (by decide) _ W.length (wv W) rfl (HS.out.wds.alloc _) ⟨wr.heap.size, 0, none⟩ 1 1 [.string x] rfl rfl ?_ ?_ ?_ ?_ ?_ ?_))
                · exact (Row.one (by go_simp)).news
                · intro y hy
                  rw [List.mem_singleton.1 hy]; rfl
                · unfold maxLen; omega
                · omega
                · have := HS.out.big; simp; omega
                intro u' w3 hown3 hgrow _
                have HS3 : Hid (St w w3 B _ u' us ls (W ++ [x.data.toList])) := (HS.out.alloc _).word x hown3 hgrow
                clear hown3 hgrow HS
                go_wp2
                go_roundw
                case rel =>
                  refine ⟨q + 1, _, us, ls, (W ++ [x.data.toList]), ⟨#[]⟩, k, false, ⟨by omega, by omega, ?_, ?_, ?_, by go_num, rfl, by go_num, rfl⟩, HS3, fun _ => HL.out, fun h => absurd h (by omega), fun _ => rfl⟩
                  · first | omega | exact Nat.zero_le _ | (simp; done) | (simp; omega)
                  · first | omega | exact Nat.zero_le _ | (simp; done) | (simp; omega)
                  · first | omega | exact Nat.zero_le _ | (simp; done) | (simp; omega)
                case measure => simp [intOf]; omega
              · have hx1 : x.size = 0 := by omega
                have HL : Hid (ls ++ tl (k + 1) W [] false (s.data.toList.drop (q + 1)) = R) := by
                  have h := HQ.out
                  rw [empty_list hx1, fl_nil, List.append_nil] at h
                  exact h
                clear HT1 HQ HD
                go_wp2
                go_roundw
                case rel =>
                  refine ⟨q + 1, _, us, ls, W, ⟨#[]⟩, k, false, ⟨by omega, by omega, ?_, ?_, ?_, by go_num, rfl, by go_num, rfl⟩, HS, fun _ => HL.out, fun h => absurd h (by omega), fun _ => rfl⟩
                  · first | omega | exact Nat.zero_le _ | (simp; done) | (simp; omega)
                  · first | omega | exact Nat.zero_le _ | (simp; done) | (simp; omega)
                  · first | omega | exact Nat.zero_le _ | (simp; done) | (simp; omega)
                case measure => simp [intOf]; omega
            · have b32 : (((s[q].toNat : Nat) : Int) == 32) = false := byte_ne _ h32 rfl
              by_cases h35 : s[q] = 35
              · have b35 : (((s[q].toNat : Nat) : Int) == 35) = true := byte_eq _ h35 rfl
                have HQ : Hid (ls ++ tl (k + 1) (W ++ fl x.data.toList) [] true (s.data.toList.drop (q + 1)) = R) := by
                  have h := HT1.out
                  have e : (false || s[q] == 35) = true := by rw [h35]; rfl
                  rw [HD.out, tl, if_neg h10, if_pos (Or.inr (Or.inr h35)), e] at h
                  exact h
                clear h35
                by_cases hx0 : 0 < x.size
                · have HL : Hid (ls ++ tl (k + 1) (W ++ [x.data.toList]) [] true (s.data.toList.drop (q + 1)) = R) := by
                    have h := HQ.out
                    rw [fl_ne (ne_list hx0)] at h
                    exact h
                  clear HT1 HQ HD
                  go_wp2_with (first | (at_builtin; refine wpList_append_own _ rfl _ _ 22 rfl B 9 i9 _ 1 16 Tryz.underlying22 hi9 hy0 hy1 hy2 rfl (by decide) _ W.length (wv W) rfl (HS.out.wds.alloc _) ⟨wr.heap.size, 0, none⟩ 1 1 [.string x] rfl rfl ?_ ?_ ?_ ?_ ?_ ?_))
                  · exact (Row.one (by go_simp)).news
                  · intro y hy
                    rw [List.mem_singleton.1 hy]; rfl
                  · unfold maxLen; omega
                  · omega
                  · have := HS.out.big; simp; omega
                  intro u' w3 hown3 hgrow _
                  have HS3 : Hid (St w w3 B _ u' us ls (W ++ [x.data.toList])) := (HS.out.alloc _).word x hown3 hgrow
                  clear hown3 hgrow HS
                  go_wp2
                  go_roundw
                  case rel =>
                    refine ⟨q + 1, _, us, ls, (W ++ [x.data.toList]), ⟨#[]⟩, k, true, ⟨by omega, by omega, ?_, ?_, ?_, by go_num, rfl, by go_num, rfl⟩, HS3, fun _ => HL.out, fun h => absurd h (by omega), fun _ => rfl⟩
                    · first | omega | exact Nat.zero_le _ | (simp; done) | (simp; omega)
                    · first | omega | exact Nat.zero_le _ | (simp; done) | (simp; omega)
                    · first | omega | exact Nat.zero_le _ | (simp; done) | (simp; omega)
                  case measure => simp [intOf]; omega
                · have hx1 : x.size = 0 := by omega
                  have HL : Hid (ls ++ tl (k + 1) W [] true (s.data.toList.drop (q + 1)) = R) := by
                    have h := HQ.out
                    rw [empty_list hx1, fl_nil, List.append_nil] at h
                    exact h
                  clear HT1 HQ HD
                  go_wp2
                  go_roundw
                  case rel =>
                    refine ⟨q + 1, _, us, ls, W, ⟨#[]⟩, k, true, ⟨by omega, by omega, ?_, ?_, ?_, by go_num, rfl, by go_num, rfl⟩, HS, fun _ => HL.out, fun h => absurd h (by omega), fun _ => rfl⟩
                    · first | omega | exact Nat.zero_le _ | (simp; done) | (simp; omega)
                    · first | omega | exact Nat.zero_le _ | (simp; done) | (simp; omega)
                    · first | omega | exact Nat.zero_le _ | (simp; done) | (simp; omega)
                  case measure => simp [intOf]; omega
              · have b35 : (((s[q].toNat : Nat) : Int) == 35) = false := byte_ne _ h35 rfl
                have hn : ¬ (false = true ∨ s[q] = 32 ∨ s[q] = 35) := by simp [h32, h35]
                have HL : Hid (ls ++ tl (k + 1) W (x ++ s.extract q (q + 1)).data.toList false (s.data.toList.drop (q + 1)) = R) := by
                  have h := HT1.out
                  rw [HD.out, tl, if_neg h10, if_neg hn] at h
                  rw [app_list, one_at s q hql]
                  exact h
                have hxs : (x ++ s.extract q (q + 1)).size = x.size + 1 := by rw [size_app, size_one s q hql]
                have g1 : (0 : Int) ≤ (q : Int) := by omega
                have g2 : (q : Int) + 1 ≤ (s.size : Int) := by omega
                have g3 : (q : Int) ≤ (q : Int) + 1 := by omega
                clear HT1 HD hn
                go_wp2
                go_roundw
                case rel =>
                  refine ⟨q + 1, _, us, ls, W, (x ++ s.extract q (q + 1)), k, false, ⟨by omega, by omega, ?_, ?_, ?_, by go_num, rfl, by go_num, rfl⟩, HS, fun _ => HL.out, fun h => absurd h (by omega), fun h => by cases h⟩
                  · first | omega | exact Nat.zero_le _ | (simp; done) | (simp; omega)
                  · first | omega | exact Nat.zero_le _ | (simp; done) | (simp; omega)
                  · first | omega | exact Nat.zero_le _ | (simp; done) | (simp; omega)
                case measure => simp [intOf]; omega
end Go.Proofs.YtokfkmncabmmcaaGreatDoor.Lx
