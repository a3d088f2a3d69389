/-
  THE PROGRAM's LINES OF ANY TEXT. Conditions: each theorem's own.
-/
import Derived.Test.YtadgnafafdfioaaGreatDoorCut
namespace Go.Proofs.YtadgnafafdfioaaGreatDoor.Lx
set_option maxRecDepth 100000
open Go.RowKit
set_option linter.unusedVariables false

theorem inf33 : (Tryz.prog.info? 65).map (fun i => (i.zero, i.size, i.bytes)) = some (some (.agg #[.int .i64 0, .slice none 0 0]), 2, 32) := by kernel_rfl
theorem inf9 : (Tryz.prog.info? 9).map (fun i => (i.zero, i.size, i.bytes)) = some (some (.string ⟨#[]⟩), 1, 16) := by kernel_rfl

theorem one_cell_slice (u : Value) (ws : List Bt) {w : World} {b : Nat} (h : w.ownsRow b 9 1 u ws.length (wv ws)) : u.oneCell' = true := by
  rcases h.2 with ⟨rfl, _⟩ | ⟨g, c, cur, rfl, _⟩ <;> rfl

def cutM : Value → Value → Nat
  | .string t, .bool true => t.size + 1
  | .string t, _ => t.size
  | _, _ => 0
theorem cutM_t (t : ByteArray) : cutM (.string t) (.bool true) = t.size + 1 := rfl
theorem cutM_le (t : ByteArray) (f : Bool) : cutM (.string t) (.bool f) ≤ t.size + (if f then 1 else 0) := by cases f <;> exact Nat.le_refl _
/-- a line is cut off, its words are told -/
theorem Part.next {s a b : ByteArray} {f : Bool} {ws : List Bt} (h : Part s 10 a b f) (hw : 10 ∉ a.data.toList → ∀ n, tl n [] [] false a.data.toList = ln1 n ws) (n : Nat) :
    tl n [] [] false s.data.toList = ln1 n ws ++ (if f then tl (n + 1) [] [] false b.data.toList else []) := by
  rcases h with ⟨rfl, rfl, rfl, h10⟩ | ⟨rfl, he, h10⟩
  · rw [hw h10]; simp
  · rw [he, lns_line _ _ (fun x hx e => h10 (e ▸ hx)), hw h10]; simp
theorem lines_any (s : ByteArray) (w : World) (hs : s.size ≤ 100000) : Calls Tryz.prog 29 #[.string s] w fun e w' => ∃ v us, e = .returned v ∧ Ls w' w.heap.size 65 v us (lns s.data.toList) ∧ Below w.heap.size w w' := by
  obtain ⟨R, hR⟩ : ∃ R, lns s.data.toList = R := ⟨_, rfl⟩
  have HR : Hid (tl 1 [] [] false s.data.toList = R) := hR
  rw [hR]
  clear hR
  obtain ⟨i0, hi, hz0, hz1, hz2⟩ := info_parts inf33
  go_enter Tryz.func29, Tryz.ntmps29
  go_wp2_with fail
  go_loopw [0, 3, 4, 5] (fun cu v n mo wr => ∃ (cur : ByteArray) (k : Nat) (us : List (Nat × Value)) (ls : List (Nat × List Bt)) (more : Bool), cu = .string cur ∧ n = .int .i64 ((k : Int) + 1) ∧ mo = .bool more ∧ Ls wr w.heap.size 65 v us ls ∧ Below w.heap.size w wr ∧
    Hid (ls ++ (if more then tl (k + 1) [] [] false cur.data.toList else []) = R) ∧ (cur.size + k ≤ s.size + 1 ∧ (more = true → cur.size + k ≤ s.size)) ∧ ls.length ≤ k) (fun cu _ _ mo _ => cutM cu mo)
  case atStart => exact ⟨s, 0, [], [], true, rfl, rfl, rfl, Ls.nil _ _ _, Below.refl _ _, HR.out, ⟨by omega, fun _ => by omega⟩, by simp⟩
  case round =>
    obtain ⟨cur, k, us, ls, more, rfl, rfl, rfl, hL, hB, HI, ⟨hk1, hk2⟩, hl⟩ := hrel
    cases more with
    | false =>
      obtain rfl : ls = R := by have := HI.out; simpa using this
      go_wp2
      go_ret
      exact ⟨_, _, rfl, hL, hB⟩
    | true =>
      go_wp2_with fail
      refine (cut_any cur 10 _ (by omega)).mono ?_
      rintro e w1 ⟨a, b, f, rfl, hP, hB1⟩
      have hbl := hP.len
      have hk := hk2 (by simp)
      have hnx : b.size + (k + 1) ≤ s.size + 1 ∧ (f = true → b.size + (k + 1) ≤ s.size) := ⟨by omega, fun h => by have := hbl.2 h; omega⟩
      clear hk1 hk2
      have HP : Hid (Part cur 10 a b f) := hP
      clear hP
      go_wp2_with fail
      refine (words_any a _ (by omega)).mono ?_
      rintro e w2 ⟨u, ws, rfl, hown, hw, hwl, hB2⟩
      have HN : Hid (ls ++ (ln1 (k + 1) ws ++ (if f then tl (k + 1 + 1) [] [] false b.data.toList else [])) = R) := by
        have h1 := HI.out
        have h2 := HP.out.next hw (k + 1)
        simp only [if_true] at h1
        rw [h2] at h1
        exact h1
      clear HI HP hw
      have hB12 : Below wr.heap.size wr w2 := hB1.trans (hB2.mono hB1.size)
      have hL2 := hL.below hB12
      have hBw : Below w.heap.size w w2 := hB.trans (hB12.mono hB.size)
      have hO : Ow w2 u ws := own_mono hown (Nat.zero_le _)
      have hu1 := one_cell_slice u ws hown
      obtain ⟨ao, cap, rfl, _, _⟩ := hO.form
      clear hL hB hB1 hB2 hB12 hown
      by_cases hz : 0 < ws.length
      · have hne : ws ≠ [] := fun e => by subst e; simp at hz
        rw [ln1_ne hne] at HN
        go_wp2_with (first | (at_builtin; refine wpList_append_own _ rfl _ _ 62 rfl w.heap.size 65 i0 _ 2 32 Tryz.underlying62 hi hz0 hz1 hz2 rfl (by decide) _ ls.length (flat us) rfl (hL2.own.alloc _) ⟨w2.heap.size, 0, none⟩ 1 1 [.int .i64 ((k : Int) + 1), .slice ao ws.length cap] rfl rfl ?_ ?_ ?_ ?_ ?_ ?_))
        · exact (Row.two (by go_simp) (by go_simp)).news
        · intro x hx
          rcases List.mem_cons.1 hx with rfl | hx
          · rfl
          · rw [List.mem_singleton.1 hx]; exact hu1
        · unfold maxLen; omega
        · omega
        · have := hBw.size; simp; omega
        · intro v' w3 hown3 hgrow _
          have hg2 := (World.grownBy_alloc w2 (.cells #[.int .i64 ((k : Int) + 1), .slice ao ws.length cap] 65) (some 0))
          have hO3 := Ow.below hO ((Below.refl _ w2).alloc (Nat.le_refl _) (.cells #[.int .i64 ((k : Int) + 1), .slice ao ws.length cap] 65))
          have hL3 := (hL2.below ((Below.refl _ w2).alloc (Nat.le_refl _) (.cells #[.int .i64 ((k : Int) + 1), .slice ao ws.length cap] 65))).snoc hO3 (by decide) (n := k + 1) hown3 hgrow
          have hB3 : Below w.heap.size w w3 := (hBw.alloc hBw.size _).grown hgrow (by have := hBw.size; simp; omega) (fun x hx => (hL2.own.lt x hx).1)
          clear hown3 hgrow hg2 hO3 hL2 hBw hO
          go_wp2
          go_roundw
          case rel => exact ⟨b, k + 1, us ++ [(k + 1, .slice ao ws.length cap)], ls ++ [(k + 1, ws)], f, rfl, by go_num, rfl, hL3, hB3, by rw [List.append_assoc]; exact HN, hnx, by simp; omega⟩
          case measure => have := cutM_le b f; rw [cutM_t]; cases f <;> simp at * <;> omega
      · have hws : ws = [] := by cases ws with
          | nil => rfl
          | cons x l => simp at hz
        subst hws
        rw [ln1_nil, List.nil_append] at HN
        go_wp2
        go_roundw
        case rel => exact ⟨b, k + 1, us, ls, f, rfl, by go_num, rfl, hL2, hBw, HN, hnx, by omega⟩
        case measure => have := cutM_le b f; rw [cutM_t]; cases f <;> simp at * <;> omega
end Go.Proofs.YtadgnafafdfioaaGreatDoor.Lx
