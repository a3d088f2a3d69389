/-
  plain: HAS A NODE NOTHING THAT ITS OPERATION DOES NOT NAME? Conditions: each theorem's own.
-/
import Derived.Test.YtadgnafafdfioaaGreatDoorGa
import Derived.Test.YtadgnafafdfioaaGreatDoorGX
namespace Go.Proofs.YtadgnafafdfioaaGreatDoor.Gr
open Go.Proofs.YtadgnafafdfioaaGreatDoor.Rd
set_option maxRecDepth 100000
open Go.RowKit
set_option linter.unusedVariables false
set_option linter.unusedSimpArgs false

theorem prv_cases (x : ByteArray) : (prs x = none ∧ prv x = -1) ∨ (prs x = some 0 ∧ prv x = 0) ∨ (prs x = some 1 ∧ prv x = 1) ∨ (prs x = some 2 ∧ prv x = 2) := by
  unfold prv
  cases h : prs x with
  | none => exact .inl ⟨rfl, rfl⟩
  | some m =>
    rcases prs_le h with rfl | rfl | rfl
    · exact .inr (.inl ⟨rfl, rfl⟩)
    · exact .inr (.inr (.inl ⟨rfl, rfl⟩))
    · exact .inr (.inr (.inr ⟨rfl, rfl⟩))
theorem pla_eq (op name K : ByteArray) (A B n : Int) (zs : List Int) (data : List ByteArray) : pla ⟨op, A, B, name, zs, K, n, data⟩ =
    (!((decide (prv op < 2) && decide (B ≠ 0)) || (decide (prv op < 1) && decide (A ≠ 0))) && (nmd op || decide (name.size = 0)) && ((isw op lScale || decide (K.size = 0)) && (isw op lPower || decide (n = 0)) && (isw op lConst || decide (data.length = 0)))) := by
  unfold pla fok
  rcases prv_cases op with ⟨h1, h2⟩ | ⟨h1, h2⟩ | ⟨h1, h2⟩ | ⟨h1, h2⟩ <;> simp only [h1, h2] <;> by_cases hA : A = 0 <;> by_cases hB : B = 0 <;> simp [hA, hB]

set_option maxHeartbeats 8000000 in
theorem plain_any (op name K : ByteArray) (A B n : Int) (zs : List Int) (data : List ByteArray) (sc dc : Nat) (sa da : Option Addr) (w : World) :
    Calls Tryz.prog 20 #[.agg #[.string op, .int .i64 A, .int .i64 B, .string name, .slice sa zs.length sc, .string K, .int .i64 n, .slice da data.length dc]] w fun e w' => e = .returned (.bool (pla ⟨op, A, B, name, zs, K, n, data⟩)) ∧ Below w.heap.size w w' := by
  rw [pla_eq]
  obtain ⟨pv, hpv⟩ : ∃ v, prv op = v := ⟨_, rfl⟩
  obtain ⟨q, hq⟩ : ∃ b, nmd op = b := ⟨_, rfl⟩
  have HP : Hid (∀ v, Calls Tryz.prog 35 #[.string op] v fun e w' => e = .returned (.int .i64 pv) ∧ w' = v) := fun v => hpv ▸ parts_any op v
  have HN : Hid (∀ v, Calls Tryz.prog 18 #[.string op] v fun e w' => e = .returned (.bool q) ∧ w' = v) := fun v => hq ▸ named_any op v
  obtain ⟨r, hr⟩ : ∃ b, decide (name.size = 0) = b := ⟨_, rfl⟩
  obtain ⟨k, hk⟩ : ∃ b, decide (K.size = 0) = b := ⟨_, rfl⟩
  obtain ⟨s, hs⟩ : ∃ b, isw op lScale = b := ⟨_, rfl⟩
  obtain ⟨p, hp⟩ : ∃ b, isw op lPower = b := ⟨_, rfl⟩
  obtain ⟨c, hc⟩ : ∃ b, isw op lConst = b := ⟨_, rfl⟩
  obtain ⟨d, hd⟩ : ∃ m, data.length = m := ⟨_, rfl⟩
  rw [hpv, hq, hr, hk, hs, hp, hc, hd]
  have gr := emp_b hr
  have gk := emp_b hk
  have gs := isw_b hs
  have gp := isw_b hp
  have gc := isw_b hc
  clear hpv hq hr hk hs hp hc hd
  generalize zs.length = sl
  have HB : Hid (∀ o, Below w.heap.size w (w.alloc o)) := fun o => bl_alloc (Below.refl _ _) o
  by_cases h2 : pv < 2
  rotate_left
  · have h1 : ¬ pv < 1 := by omega
    cases q with
    | true =>
      cases s with
      | true =>
        cases p with
        | true =>
          cases c with
          | true =>
            go_enter Tryz.func20, Tryz.ntmps20
            go_wp2_with (first | (go_at_call 35; refine (HP.out _).mono ?_; rintro e w1 ⟨rfl, rfl⟩) | (go_at_call 18; refine (HN.out _).mono ?_; rintro e w1 ⟨rfl, rfl⟩))
            go_ret
            exact ⟨by simp [h2, h1], HB.out _⟩
          | false =>
            by_cases hd0 : d = 0
            · skip
              go_enter Tryz.func20, Tryz.ntmps20
              go_wp2_with (first | (go_at_call 35; refine (HP.out _).mono ?_; rintro e w1 ⟨rfl, rfl⟩) | (go_at_call 18; refine (HN.out _).mono ?_; rintro e w1 ⟨rfl, rfl⟩))
              go_ret
              exact ⟨by simp [h2, h1, hd0], HB.out _⟩
            · skip
              have hd1 : 0 < d := by omega
              go_enter Tryz.func20, Tryz.ntmps20
              go_wp2_with (first | (go_at_call 35; refine (HP.out _).mono ?_; rintro e w1 ⟨rfl, rfl⟩) | (go_at_call 18; refine (HN.out _).mono ?_; rintro e w1 ⟨rfl, rfl⟩))
              go_ret
              exact ⟨by simp [h2, h1, hd0], HB.out _⟩
        | false =>
          by_cases hn0 : n = 0
          · skip
            skip
            cases c with
            | true =>
              go_enter Tryz.func20, Tryz.ntmps20
              go_wp2_with (first | (go_at_call 35; refine (HP.out _).mono ?_; rintro e w1 ⟨rfl, rfl⟩) | (go_at_call 18; refine (HN.out _).mono ?_; rintro e w1 ⟨rfl, rfl⟩))
              go_ret
              exact ⟨by simp [h2, h1, hn0], HB.out _⟩
            | false =>
              by_cases hd0 : d = 0
              · skip
                go_enter Tryz.func20, Tryz.ntmps20
                go_wp2_with (first | (go_at_call 35; refine (HP.out _).mono ?_; rintro e w1 ⟨rfl, rfl⟩) | (go_at_call 18; refine (HN.out _).mono ?_; rintro e w1 ⟨rfl, rfl⟩))
                go_ret
                exact ⟨by simp [h2, h1, hn0, hd0], HB.out _⟩
              · skip
                have hd1 : 0 < d := by omega
                go_enter Tryz.func20, Tryz.ntmps20
                go_wp2_with (first | (go_at_call 35; refine (HP.out _).mono ?_; rintro e w1 ⟨rfl, rfl⟩) | (go_at_call 18; refine (HN.out _).mono ?_; rintro e w1 ⟨rfl, rfl⟩))
                go_ret
                exact ⟨by simp [h2, h1, hn0, hd0], HB.out _⟩
          · skip
            go_enter Tryz.func20, Tryz.ntmps20
            go_wp2_with (first | (go_at_call 35; refine (HP.out _).mono ?_; rintro e w1 ⟨rfl, rfl⟩) | (go_at_call 18; refine (HN.out _).mono ?_; rintro e w1 ⟨rfl, rfl⟩))
            go_ret
            exact ⟨by simp [h2, h1, hn0], HB.out _⟩
      | false =>
        cases k with
        | true =>
          cases p with
          | true =>
            cases c with
            | true =>
              go_enter Tryz.func20, Tryz.ntmps20
              go_wp2_with (first | (go_at_call 35; refine (HP.out _).mono ?_; rintro e w1 ⟨rfl, rfl⟩) | (go_at_call 18; refine (HN.out _).mono ?_; rintro e w1 ⟨rfl, rfl⟩))
              go_ret
              exact ⟨by simp [h2, h1], HB.out _⟩
            | false =>
              by_cases hd0 : d = 0
              · skip
                go_enter Tryz.func20, Tryz.ntmps20
                go_wp2_with (first | (go_at_call 35; refine (HP.out _).mono ?_; rintro e w1 ⟨rfl, rfl⟩) | (go_at_call 18; refine (HN.out _).mono ?_; rintro e w1 ⟨rfl, rfl⟩))
                go_ret
                exact ⟨by simp [h2, h1, hd0], HB.out _⟩
              · skip
                have hd1 : 0 < d := by omega
                go_enter Tryz.func20, Tryz.ntmps20
                go_wp2_with (first | (go_at_call 35; refine (HP.out _).mono ?_; rintro e w1 ⟨rfl, rfl⟩) | (go_at_call 18; refine (HN.out _).mono ?_; rintro e w1 ⟨rfl, rfl⟩))
                go_ret
                exact ⟨by simp [h2, h1, hd0], HB.out _⟩
          | false =>
            by_cases hn0 : n = 0
            · skip
              skip
              cases c with
              | true =>
                go_enter Tryz.func20, Tryz.ntmps20
                go_wp2_with (first | (go_at_call 35; refine (HP.out _).mono ?_; rintro e w1 ⟨rfl, rfl⟩) | (go_at_call 18; refine (HN.out _).mono ?_; rintro e w1 ⟨rfl, rfl⟩))
                go_ret
                exact ⟨by simp [h2, h1, hn0], HB.out _⟩
              | false =>
                by_cases hd0 : d = 0
                · skip
                  go_enter Tryz.func20, Tryz.ntmps20
                  go_wp2_with (first | (go_at_call 35; refine (HP.out _).mono ?_; rintro e w1 ⟨rfl, rfl⟩) | (go_at_call 18; refine (HN.out _).mono ?_; rintro e w1 ⟨rfl, rfl⟩))
                  go_ret
                  exact ⟨by simp [h2, h1, hn0, hd0], HB.out _⟩
                · skip
                  have hd1 : 0 < d := by omega
                  go_enter Tryz.func20, Tryz.ntmps20
                  go_wp2_with (first | (go_at_call 35; refine (HP.out _).mono ?_; rintro e w1 ⟨rfl, rfl⟩) | (go_at_call 18; refine (HN.out _).mono ?_; rintro e w1 ⟨rfl, rfl⟩))
                  go_ret
                  exact ⟨by simp [h2, h1, hn0, hd0], HB.out _⟩
            · skip
              go_enter Tryz.func20, Tryz.ntmps20
              go_wp2_with (first | (go_at_call 35; refine (HP.out _).mono ?_; rintro e w1 ⟨rfl, rfl⟩) | (go_at_call 18; refine (HN.out _).mono ?_; rintro e w1 ⟨rfl, rfl⟩))
              go_ret
              exact ⟨by simp [h2, h1, hn0], HB.out _⟩
        | false =>
          go_enter Tryz.func20, Tryz.ntmps20
          go_wp2_with (first | (go_at_call 35; refine (HP.out _).mono ?_; rintro e w1 ⟨rfl, rfl⟩) | (go_at_call 18; refine (HN.out _).mono ?_; rintro e w1 ⟨rfl, rfl⟩))
          go_ret
          exact ⟨by simp [h2, h1], HB.out _⟩
    | false =>
      cases r with
      | true =>
        cases s with
        | true =>
          cases p with
          | true =>
            cases c with
            | true =>
              go_enter Tryz.func20, Tryz.ntmps20
              go_wp2_with (first | (go_at_call 35; refine (HP.out _).mono ?_; rintro e w1 ⟨rfl, rfl⟩) | (go_at_call 18; refine (HN.out _).mono ?_; rintro e w1 ⟨rfl, rfl⟩))
              go_ret
              exact ⟨by simp [h2, h1], HB.out _⟩
            | false =>
              by_cases hd0 : d = 0
              · skip
                go_enter Tryz.func20, Tryz.ntmps20
                go_wp2_with (first | (go_at_call 35; refine (HP.out _).mono ?_; rintro e w1 ⟨rfl, rfl⟩) | (go_at_call 18; refine (HN.out _).mono ?_; rintro e w1 ⟨rfl, rfl⟩))
                go_ret
                exact ⟨by simp [h2, h1, hd0], HB.out _⟩
              · skip
                have hd1 : 0 < d := by omega
                go_enter Tryz.func20, Tryz.ntmps20
                go_wp2_with (first | (go_at_call 35; refine (HP.out _).mono ?_; rintro e w1 ⟨rfl, rfl⟩) | (go_at_call 18; refine (HN.out _).mono ?_; rintro e w1 ⟨rfl, rfl⟩))
                go_ret
                exact ⟨by simp [h2, h1, hd0], HB.out _⟩
          | false =>
            by_cases hn0 : n = 0
            · skip
              skip
              cases c with
              | true =>
                go_enter Tryz.func20, Tryz.ntmps20
                go_wp2_with (first | (go_at_call 35; refine (HP.out _).mono ?_; rintro e w1 ⟨rfl, rfl⟩) | (go_at_call 18; refine (HN.out _).mono ?_; rintro e w1 ⟨rfl, rfl⟩))
                go_ret
                exact ⟨by simp [h2, h1, hn0], HB.out _⟩
              | false =>
                by_cases hd0 : d = 0
                · skip
                  go_enter Tryz.func20, Tryz.ntmps20
                  go_wp2_with (first | (go_at_call 35; refine (HP.out _).mono ?_; rintro e w1 ⟨rfl, rfl⟩) | (go_at_call 18; refine (HN.out _).mono ?_; rintro e w1 ⟨rfl, rfl⟩))
                  go_ret
                  exact ⟨by simp [h2, h1, hn0, hd0], HB.out _⟩
                · skip
                  have hd1 : 0 < d := by omega
                  go_enter Tryz.func20, Tryz.ntmps20
                  go_wp2_with (first | (go_at_call 35; refine (HP.out _).mono ?_; rintro e w1 ⟨rfl, rfl⟩) | (go_at_call 18; refine (HN.out _).mono ?_; rintro e w1 ⟨rfl, rfl⟩))
                  go_ret
                  exact ⟨by simp [h2, h1, hn0, hd0], HB.out _⟩
            · skip
              go_enter Tryz.func20, Tryz.ntmps20
              go_wp2_with (first | (go_at_call 35; refine (HP.out _).mono ?_; rintro e w1 ⟨rfl, rfl⟩) | (go_at_call 18; refine (HN.out _).mono ?_; rintro e w1 ⟨rfl, rfl⟩))
              go_ret
              exact ⟨by simp [h2, h1, hn0], HB.out _⟩
        | false =>
          cases k with
          | true =>
            cases p with
            | true =>
              cases c with
              | true =>
                go_enter Tryz.func20, Tryz.ntmps20
                go_wp2_with (first | (go_at_call 35; refine (HP.out _).mono ?_; rintro e w1 ⟨rfl, rfl⟩) | (go_at_call 18; refine (HN.out _).mono ?_; rintro e w1 ⟨rfl, rfl⟩))
                go_ret
                exact ⟨by simp [h2, h1], HB.out _⟩
              | false =>
                by_cases hd0 : d = 0
                · skip
                  go_enter Tryz.func20, Tryz.ntmps20
                  go_wp2_with (first | (go_at_call 35; refine (HP.out _).mono ?_; rintro e w1 ⟨rfl, rfl⟩) | (go_at_call 18; refine (HN.out _).mono ?_; rintro e w1 ⟨rfl, rfl⟩))
                  go_ret
                  exact ⟨by simp [h2, h1, hd0], HB.out _⟩
                · skip
                  have hd1 : 0 < d := by omega
                  go_enter Tryz.func20, Tryz.ntmps20
                  go_wp2_with (first | (go_at_call 35; refine (HP.out _).mono ?_; rintro e w1 ⟨rfl, rfl⟩) | (go_at_call 18; refine (HN.out _).mono ?_; rintro e w1 ⟨rfl, rfl⟩))
                  go_ret
                  exact ⟨by simp [h2, h1, hd0], HB.out _⟩
            | false =>
              by_cases hn0 : n = 0
              · skip
                skip
                cases c with
                | true =>
                  go_enter Tryz.func20, Tryz.ntmps20
                  go_wp2_with (first | (go_at_call 35; refine (HP.out _).mono ?_; rintro e w1 ⟨rfl, rfl⟩) | (go_at_call 18; refine (HN.out _).mono ?_; rintro e w1 ⟨rfl, rfl⟩))
                  go_ret
                  exact ⟨by simp [h2, h1, hn0], HB.out _⟩
                | false =>
                  by_cases hd0 : d = 0
                  · skip
                    go_enter Tryz.func20, Tryz.ntmps20
                    go_wp2_with (first | (go_at_call 35; refine (HP.out _).mono ?_; rintro e w1 ⟨rfl, rfl⟩) | (go_at_call 18; refine (HN.out _).mono ?_; rintro e w1 ⟨rfl, rfl⟩))
                    go_ret
                    exact ⟨by simp [h2, h1, hn0, hd0], HB.out _⟩
                  · skip
                    have hd1 : 0 < d := by omega
                    go_enter Tryz.func20, Tryz.ntmps20
                    go_wp2_with (first | (go_at_call 35; refine (HP.out _).mono ?_; rintro e w1 ⟨rfl, rfl⟩) | (go_at_call 18; refine (HN.out _).mono ?_; rintro e w1 ⟨rfl, rfl⟩))
                    go_ret
                    exact ⟨by simp [h2, h1, hn0, hd0], HB.out _⟩
              · skip
                go_enter Tryz.func20, Tryz.ntmps20
                go_wp2_with (first | (go_at_call 35; refine (HP.out _).mono ?_; rintro e w1 ⟨rfl, rfl⟩) | (go_at_call 18; refine (HN.out _).mono ?_; rintro e w1 ⟨rfl, rfl⟩))
                go_ret
                exact ⟨by simp [h2, h1, hn0], HB.out _⟩
          | false =>
            go_enter Tryz.func20, Tryz.ntmps20
            go_wp2_with (first | (go_at_call 35; refine (HP.out _).mono ?_; rintro e w1 ⟨rfl, rfl⟩) | (go_at_call 18; refine (HN.out _).mono ?_; rintro e w1 ⟨rfl, rfl⟩))
            go_ret
            exact ⟨by simp [h2, h1], HB.out _⟩
      | false =>
        go_enter Tryz.func20, Tryz.ntmps20
        go_wp2_with (first | (go_at_call 35; refine (HP.out _).mono ?_; rintro e w1 ⟨rfl, rfl⟩) | (go_at_call 18; refine (HN.out _).mono ?_; rintro e w1 ⟨rfl, rfl⟩))
        go_ret
        exact ⟨by simp [h2, h1], HB.out _⟩
  by_cases hB : B = 0
  rotate_left
  · skip
    go_enter Tryz.func20, Tryz.ntmps20
    go_wp2_with (first | (go_at_call 35; refine (HP.out _).mono ?_; rintro e w1 ⟨rfl, rfl⟩) | (go_at_call 18; refine (HN.out _).mono ?_; rintro e w1 ⟨rfl, rfl⟩))
    go_ret
    exact ⟨by simp [h2, hB], HB.out _⟩
  by_cases h1 : pv < 1
  rotate_left
  · skip
    cases q with
    | true =>
      cases s with
      | true =>
        cases p with
        | true =>
          cases c with
          | true =>
            go_enter Tryz.func20, Tryz.ntmps20
            go_wp2_with (first | (go_at_call 35; refine (HP.out _).mono ?_; rintro e w1 ⟨rfl, rfl⟩) | (go_at_call 18; refine (HN.out _).mono ?_; rintro e w1 ⟨rfl, rfl⟩))
            go_ret
            exact ⟨by simp [h2, h1, hB], HB.out _⟩
          | false =>
            by_cases hd0 : d = 0
            · skip
              go_enter Tryz.func20, Tryz.ntmps20
              go_wp2_with (first | (go_at_call 35; refine (HP.out _).mono ?_; rintro e w1 ⟨rfl, rfl⟩) | (go_at_call 18; refine (HN.out _).mono ?_; rintro e w1 ⟨rfl, rfl⟩))
              go_ret
              exact ⟨by simp [h2, h1, hB, hd0], HB.out _⟩
            · skip
              have hd1 : 0 < d := by omega
              go_enter Tryz.func20, Tryz.ntmps20
              go_wp2_with (first | (go_at_call 35; refine (HP.out _).mono ?_; rintro e w1 ⟨rfl, rfl⟩) | (go_at_call 18; refine (HN.out _).mono ?_; rintro e w1 ⟨rfl, rfl⟩))
              go_ret
              exact ⟨by simp [h2, h1, hB, hd0], HB.out _⟩
        | false =>
          by_cases hn0 : n = 0
          · skip
            skip
            cases c with
            | true =>
              go_enter Tryz.func20, Tryz.ntmps20
              go_wp2_with (first | (go_at_call 35; refine (HP.out _).mono ?_; rintro e w1 ⟨rfl, rfl⟩) | (go_at_call 18; refine (HN.out _).mono ?_; rintro e w1 ⟨rfl, rfl⟩))
              go_ret
              exact ⟨by simp [h2, h1, hB, hn0], HB.out _⟩
            | false =>
              by_cases hd0 : d = 0
              · skip
                go_enter Tryz.func20, Tryz.ntmps20
                go_wp2_with (first | (go_at_call 35; refine (HP.out _).mono ?_; rintro e w1 ⟨rfl, rfl⟩) | (go_at_call 18; refine (HN.out _).mono ?_; rintro e w1 ⟨rfl, rfl⟩))
                go_ret
                exact ⟨by simp [h2, h1, hB, hn0, hd0], HB.out _⟩
              · skip
                have hd1 : 0 < d := by omega
                go_enter Tryz.func20, Tryz.ntmps20
                go_wp2_with (first | (go_at_call 35; refine (HP.out _).mono ?_; rintro e w1 ⟨rfl, rfl⟩) | (go_at_call 18; refine (HN.out _).mono ?_; rintro e w1 ⟨rfl, rfl⟩))
                go_ret
                exact ⟨by simp [h2, h1, hB, hn0, hd0], HB.out _⟩
          · skip
            go_enter Tryz.func20, Tryz.ntmps20
            go_wp2_with (first | (go_at_call 35; refine (HP.out _).mono ?_; rintro e w1 ⟨rfl, rfl⟩) | (go_at_call 18; refine (HN.out _).mono ?_; rintro e w1 ⟨rfl, rfl⟩))
            go_ret
            exact ⟨by simp [h2, h1, hB, hn0], HB.out _⟩
      | false =>
        cases k with
        | true =>
          cases p with
          | true =>
            cases c with
            | true =>
              go_enter Tryz.func20, Tryz.ntmps20
              go_wp2_with (first | (go_at_call 35; refine (HP.out _).mono ?_; rintro e w1 ⟨rfl, rfl⟩) | (go_at_call 18; refine (HN.out _).mono ?_; rintro e w1 ⟨rfl, rfl⟩))
              go_ret
              exact ⟨by simp [h2, h1, hB], HB.out _⟩
            | false =>
              by_cases hd0 : d = 0
              · skip
                go_enter Tryz.func20, Tryz.ntmps20
                go_wp2_with (first | (go_at_call 35; refine (HP.out _).mono ?_; rintro e w1 ⟨rfl, rfl⟩) | (go_at_call 18; refine (HN.out _).mono ?_; rintro e w1 ⟨rfl, rfl⟩))
                go_ret
                exact ⟨by simp [h2, h1, hB, hd0], HB.out _⟩
              · skip
                have hd1 : 0 < d := by omega
                go_enter Tryz.func20, Tryz.ntmps20
                go_wp2_with (first | (go_at_call 35; refine (HP.out _).mono ?_; rintro e w1 ⟨rfl, rfl⟩) | (go_at_call 18; refine (HN.out _).mono ?_; rintro e w1 ⟨rfl, rfl⟩))
                go_ret
                exact ⟨by simp [h2, h1, hB, hd0], HB.out _⟩
          | false =>
            by_cases hn0 : n = 0
            · skip
              skip
              cases c with
              | true =>
                go_enter Tryz.func20, Tryz.ntmps20
                go_wp2_with (first | (go_at_call 35; refine (HP.out _).mono ?_; rintro e w1 ⟨rfl, rfl⟩) | (go_at_call 18; refine (HN.out _).mono ?_; rintro e w1 ⟨rfl, rfl⟩))
                go_ret
                exact ⟨by simp [h2, h1, hB, hn0], HB.out _⟩
              | false =>
                by_cases hd0 : d = 0
                · skip
                  go_enter Tryz.func20, Tryz.ntmps20
                  go_wp2_with (first | (go_at_call 35; refine (HP.out _).mono ?_; rintro e w1 ⟨rfl, rfl⟩) | (go_at_call 18; refine (HN.out _).mono ?_; rintro e w1 ⟨rfl, rfl⟩))
                  go_ret
                  exact ⟨by simp [h2, h1, hB, hn0, hd0], HB.out _⟩
                · skip
                  have hd1 : 0 < d := by omega
                  go_enter Tryz.func20, Tryz.ntmps20
                  go_wp2_with (first | (go_at_call 35; refine (HP.out _).mono ?_; rintro e w1 ⟨rfl, rfl⟩) | (go_at_call 18; refine (HN.out _).mono ?_; rintro e w1 ⟨rfl, rfl⟩))
                  go_ret
                  exact ⟨by simp [h2, h1, hB, hn0, hd0], HB.out _⟩
            · skip
              go_enter Tryz.func20, Tryz.ntmps20
              go_wp2_with (first | (go_at_call 35; refine (HP.out _).mono ?_; rintro e w1 ⟨rfl, rfl⟩) | (go_at_call 18; refine (HN.out _).mono ?_; rintro e w1 ⟨rfl, rfl⟩))
              go_ret
              exact ⟨by simp [h2, h1, hB, hn0], HB.out _⟩
        | false =>
          go_enter Tryz.func20, Tryz.ntmps20
          go_wp2_with (first | (go_at_call 35; refine (HP.out _).mono ?_; rintro e w1 ⟨rfl, rfl⟩) | (go_at_call 18; refine (HN.out _).mono ?_; rintro e w1 ⟨rfl, rfl⟩))
          go_ret
          exact ⟨by simp [h2, h1, hB], HB.out _⟩
    | false =>
      cases r with
      | true =>
        cases s with
        | true =>
          cases p with
          | true =>
            cases c with
            | true =>
              go_enter Tryz.func20, Tryz.ntmps20
              go_wp2_with (first | (go_at_call 35; refine (HP.out _).mono ?_; rintro e w1 ⟨rfl, rfl⟩) | (go_at_call 18; refine (HN.out _).mono ?_; rintro e w1 ⟨rfl, rfl⟩))
              go_ret
              exact ⟨by simp [h2, h1, hB], HB.out _⟩
            | false =>
              by_cases hd0 : d = 0
              · skip
                go_enter Tryz.func20, Tryz.ntmps20
                go_wp2_with (first | (go_at_call 35; refine (HP.out _).mono ?_; rintro e w1 ⟨rfl, rfl⟩) | (go_at_call 18; refine (HN.out _).mono ?_; rintro e w1 ⟨rfl, rfl⟩))
                go_ret
                exact ⟨by simp [h2, h1, hB, hd0], HB.out _⟩
              · skip
                have hd1 : 0 < d := by omega
                go_enter Tryz.func20, Tryz.ntmps20
                go_wp2_with (first | (go_at_call 35; refine (HP.out _).mono ?_; rintro e w1 ⟨rfl, rfl⟩) | (go_at_call 18; refine (HN.out _).mono ?_; rintro e w1 ⟨rfl, rfl⟩))
                go_ret
                exact ⟨by simp [h2, h1, hB, hd0], HB.out _⟩
          | false =>
            by_cases hn0 : n = 0
            · skip
              skip
              cases c with
              | true =>
                go_enter Tryz.func20, Tryz.ntmps20
                go_wp2_with (first | (go_at_call 35; refine (HP.out _).mono ?_; rintro e w1 ⟨rfl, rfl⟩) | (go_at_call 18; refine (HN.out _).mono ?_; rintro e w1 ⟨rfl, rfl⟩))
                go_ret
                exact ⟨by simp [h2, h1, hB, hn0], HB.out _⟩
              | false =>
                by_cases hd0 : d = 0
                · skip
                  go_enter Tryz.func20, Tryz.ntmps20
                  go_wp2_with (first | (go_at_call 35; refine (HP.out _).mono ?_; rintro e w1 ⟨rfl, rfl⟩) | (go_at_call 18; refine (HN.out _).mono ?_; rintro e w1 ⟨rfl, rfl⟩))
                  go_ret
                  exact ⟨by simp [h2, h1, hB, hn0, hd0], HB.out _⟩
                · skip
                  have hd1 : 0 < d := by omega
                  go_enter Tryz.func20, Tryz.ntmps20
                  go_wp2_with (first | (go_at_call 35; refine (HP.out _).mono ?_; rintro e w1 ⟨rfl, rfl⟩) | (go_at_call 18; refine (HN.out _).mono ?_; rintro e w1 ⟨rfl, rfl⟩))
                  go_ret
                  exact ⟨by simp [h2, h1, hB, hn0, hd0], HB.out _⟩
            · skip
              go_enter Tryz.func20, Tryz.ntmps20
              go_wp2_with (first | (go_at_call 35; refine (HP.out _).mono ?_; rintro e w1 ⟨rfl, rfl⟩) | (go_at_call 18; refine (HN.out _).mono ?_; rintro e w1 ⟨rfl, rfl⟩))
              go_ret
              exact ⟨by simp [h2, h1, hB, hn0], HB.out _⟩
        | false =>
          cases k with
          | true =>
            cases p with
            | true =>
              cases c with
              | true =>
                go_enter Tryz.func20, Tryz.ntmps20
                go_wp2_with (first | (go_at_call 35; refine (HP.out _).mono ?_; rintro e w1 ⟨rfl, rfl⟩) | (go_at_call 18; refine (HN.out _).mono ?_; rintro e w1 ⟨rfl, rfl⟩))
                go_ret
                exact ⟨by simp [h2, h1, hB], HB.out _⟩
              | false =>
                by_cases hd0 : d = 0
                · skip
                  go_enter Tryz.func20, Tryz.ntmps20
                  go_wp2_with (first | (go_at_call 35; refine (HP.out _).mono ?_; rintro e w1 ⟨rfl, rfl⟩) | (go_at_call 18; refine (HN.out _).mono ?_; rintro e w1 ⟨rfl, rfl⟩))
                  go_ret
                  exact ⟨by simp [h2, h1, hB, hd0], HB.out _⟩
                · skip
                  have hd1 : 0 < d := by omega
                  go_enter Tryz.func20, Tryz.ntmps20
                  go_wp2_with (first | (go_at_call 35; refine (HP.out _).mono ?_; rintro e w1 ⟨rfl, rfl⟩) | (go_at_call 18; refine (HN.out _).mono ?_; rintro e w1 ⟨rfl, rfl⟩))
                  go_ret
                  exact ⟨by simp [h2, h1, hB, hd0], HB.out _⟩
            | false =>
              by_cases hn0 : n = 0
              · skip
                skip
                cases c with
                | true =>
                  go_enter Tryz.func20, Tryz.ntmps20
                  go_wp2_with (first | (go_at_call 35; refine (HP.out _).mono ?_; rintro e w1 ⟨rfl, rfl⟩) | (go_at_call 18; refine (HN.out _).mono ?_; rintro e w1 ⟨rfl, rfl⟩))
                  go_ret
                  exact ⟨by simp [h2, h1, hB, hn0], HB.out _⟩
                | false =>
                  by_cases hd0 : d = 0
                  · skip
                    go_enter Tryz.func20, Tryz.ntmps20
                    go_wp2_with (first | (go_at_call 35; refine (HP.out _).mono ?_; rintro e w1 ⟨rfl, rfl⟩) | (go_at_call 18; refine (HN.out _).mono ?_; rintro e w1 ⟨rfl, rfl⟩))
                    go_ret
                    exact ⟨by simp [h2, h1, hB, hn0, hd0], HB.out _⟩
                  · skip
                    have hd1 : 0 < d := by omega
                    go_enter Tryz.func20, Tryz.ntmps20
                    go_wp2_with (first | (go_at_call 35; refine (HP.out _).mono ?_; rintro e w1 ⟨rfl, rfl⟩) | (go_at_call 18; refine (HN.out _).mono ?_; rintro e w1 ⟨rfl, rfl⟩))
                    go_ret
                    exact ⟨by simp [h2, h1, hB, hn0, hd0], HB.out _⟩
              · skip
                go_enter Tryz.func20, Tryz.ntmps20
                go_wp2_with (first | (go_at_call 35; refine (HP.out _).mono ?_; rintro e w1 ⟨rfl, rfl⟩) | (go_at_call 18; refine (HN.out _).mono ?_; rintro e w1 ⟨rfl, rfl⟩))
                go_ret
                exact ⟨by simp [h2, h1, hB, hn0], HB.out _⟩
          | false =>
            go_enter Tryz.func20, Tryz.ntmps20
            go_wp2_with (first | (go_at_call 35; refine (HP.out _).mono ?_; rintro e w1 ⟨rfl, rfl⟩) | (go_at_call 18; refine (HN.out _).mono ?_; rintro e w1 ⟨rfl, rfl⟩))
            go_ret
            exact ⟨by simp [h2, h1, hB], HB.out _⟩
      | false =>
        go_enter Tryz.func20, Tryz.ntmps20
        go_wp2_with (first | (go_at_call 35; refine (HP.out _).mono ?_; rintro e w1 ⟨rfl, rfl⟩) | (go_at_call 18; refine (HN.out _).mono ?_; rintro e w1 ⟨rfl, rfl⟩))
        go_ret
        exact ⟨by simp [h2, h1, hB], HB.out _⟩
  by_cases hA : A = 0
  rotate_left
  · skip
    go_enter Tryz.func20, Tryz.ntmps20
    go_wp2_with (first | (go_at_call 35; refine (HP.out _).mono ?_; rintro e w1 ⟨rfl, rfl⟩) | (go_at_call 18; refine (HN.out _).mono ?_; rintro e w1 ⟨rfl, rfl⟩))
    go_ret
    exact ⟨by simp [h2, h1, hB, hA], HB.out _⟩
  cases q with
  | true =>
    cases s with
    | true =>
      cases p with
      | true =>
        cases c with
        | true =>
          go_enter Tryz.func20, Tryz.ntmps20
          go_wp2_with (first | (go_at_call 35; refine (HP.out _).mono ?_; rintro e w1 ⟨rfl, rfl⟩) | (go_at_call 18; refine (HN.out _).mono ?_; rintro e w1 ⟨rfl, rfl⟩))
          go_ret
          exact ⟨by simp [h2, h1, hB, hA], HB.out _⟩
        | false =>
          by_cases hd0 : d = 0
          · skip
            go_enter Tryz.func20, Tryz.ntmps20
            go_wp2_with (first | (go_at_call 35; refine (HP.out _).mono ?_; rintro e w1 ⟨rfl, rfl⟩) | (go_at_call 18; refine (HN.out _).mono ?_; rintro e w1 ⟨rfl, rfl⟩))
            go_ret
            exact ⟨by simp [h2, h1, hB, hA, hd0], HB.out _⟩
          · skip
            have hd1 : 0 < d := by omega
            go_enter Tryz.func20, Tryz.ntmps20
            go_wp2_with (first | (go_at_call 35; refine (HP.out _).mono ?_; rintro e w1 ⟨rfl, rfl⟩) | (go_at_call 18; refine (HN.out _).mono ?_; rintro e w1 ⟨rfl, rfl⟩))
            go_ret
            exact ⟨by simp [h2, h1, hB, hA, hd0], HB.out _⟩
      | false =>
        by_cases hn0 : n = 0
        · skip
          skip
          cases c with
          | true =>
            go_enter Tryz.func20, Tryz.ntmps20
            go_wp2_with (first | (go_at_call 35; refine (HP.out _).mono ?_; rintro e w1 ⟨rfl, rfl⟩) | (go_at_call 18; refine (HN.out _).mono ?_; rintro e w1 ⟨rfl, rfl⟩))
            go_ret
            exact ⟨by simp [h2, h1, hB, hA, hn0], HB.out _⟩
          | false =>
            by_cases hd0 : d = 0
            · skip
              go_enter Tryz.func20, Tryz.ntmps20
              go_wp2_with (first | (go_at_call 35; refine (HP.out _).mono ?_; rintro e w1 ⟨rfl, rfl⟩) | (go_at_call 18; refine (HN.out _).mono ?_; rintro e w1 ⟨rfl, rfl⟩))
              go_ret
              exact ⟨by simp [h2, h1, hB, hA, hn0, hd0], HB.out _⟩
            · skip
              have hd1 : 0 < d := by omega
              go_enter Tryz.func20, Tryz.ntmps20
              go_wp2_with (first | (go_at_call 35; refine (HP.out _).mono ?_; rintro e w1 ⟨rfl, rfl⟩) | (go_at_call 18; refine (HN.out _).mono ?_; rintro e w1 ⟨rfl, rfl⟩))
              go_ret
              exact ⟨by simp [h2, h1, hB, hA, hn0, hd0], HB.out _⟩
        · skip
          go_enter Tryz.func20, Tryz.ntmps20
          go_wp2_with (first | (go_at_call 35; refine (HP.out _).mono ?_; rintro e w1 ⟨rfl, rfl⟩) | (go_at_call 18; refine (HN.out _).mono ?_; rintro e w1 ⟨rfl, rfl⟩))
          go_ret
          exact ⟨by simp [h2, h1, hB, hA, hn0], HB.out _⟩
    | false =>
      cases k with
      | true =>
        cases p with
        | true =>
          cases c with
          | true =>
            go_enter Tryz.func20, Tryz.ntmps20
            go_wp2_with (first | (go_at_call 35; refine (HP.out _).mono ?_; rintro e w1 ⟨rfl, rfl⟩) | (go_at_call 18; refine (HN.out _).mono ?_; rintro e w1 ⟨rfl, rfl⟩))
            go_ret
            exact ⟨by simp [h2, h1, hB, hA], HB.out _⟩
          | false =>
            by_cases hd0 : d = 0
            · skip
              go_enter Tryz.func20, Tryz.ntmps20
              go_wp2_with (first | (go_at_call 35; refine (HP.out _).mono ?_; rintro e w1 ⟨rfl, rfl⟩) | (go_at_call 18; refine (HN.out _).mono ?_; rintro e w1 ⟨rfl, rfl⟩))
              go_ret
              exact ⟨by simp [h2, h1, hB, hA, hd0], HB.out _⟩
            · skip
              have hd1 : 0 < d := by omega
              go_enter Tryz.func20, Tryz.ntmps20
              go_wp2_with (first | (go_at_call 35; refine (HP.out _).mono ?_; rintro e w1 ⟨rfl, rfl⟩) | (go_at_call 18; refine (HN.out _).mono ?_; rintro e w1 ⟨rfl, rfl⟩))
              go_ret
              exact ⟨by simp [h2, h1, hB, hA, hd0], HB.out _⟩
        | false =>
          by_cases hn0 : n = 0
          · skip
            skip
            cases c with
            | true =>
              go_enter Tryz.func20, Tryz.ntmps20
              go_wp2_with (first | (go_at_call 35; refine (HP.out _).mono ?_; rintro e w1 ⟨rfl, rfl⟩) | (go_at_call 18; refine (HN.out _).mono ?_; rintro e w1 ⟨rfl, rfl⟩))
              go_ret
              exact ⟨by simp [h2, h1, hB, hA, hn0], HB.out _⟩
            | false =>
              by_cases hd0 : d = 0
              · skip
                go_enter Tryz.func20, Tryz.ntmps20
                go_wp2_with (first | (go_at_call 35; refine (HP.out _).mono ?_; rintro e w1 ⟨rfl, rfl⟩) | (go_at_call 18; refine (HN.out _).mono ?_; rintro e w1 ⟨rfl, rfl⟩))
                go_ret
                exact ⟨by simp [h2, h1, hB, hA, hn0, hd0], HB.out _⟩
              · skip
                have hd1 : 0 < d := by omega
                go_enter Tryz.func20, Tryz.ntmps20
                go_wp2_with (first | (go_at_call 35; refine (HP.out _).mono ?_; rintro e w1 ⟨rfl, rfl⟩) | (go_at_call 18; refine (HN.out _).mono ?_; rintro e w1 ⟨rfl, rfl⟩))
                go_ret
                exact ⟨by simp [h2, h1, hB, hA, hn0, hd0], HB.out _⟩
          · skip
            go_enter Tryz.func20, Tryz.ntmps20
            go_wp2_with (first | (go_at_call 35; refine (HP.out _).mono ?_; rintro e w1 ⟨rfl, rfl⟩) | (go_at_call 18; refine (HN.out _).mono ?_; rintro e w1 ⟨rfl, rfl⟩))
            go_ret
            exact ⟨by simp [h2, h1, hB, hA, hn0], HB.out _⟩
      | false =>
        go_enter Tryz.func20, Tryz.ntmps20
        go_wp2_with (first | (go_at_call 35; refine (HP.out _).mono ?_; rintro e w1 ⟨rfl, rfl⟩) | (go_at_call 18; refine (HN.out _).mono ?_; rintro e w1 ⟨rfl, rfl⟩))
        go_ret
        exact ⟨by simp [h2, h1, hB, hA], HB.out _⟩
  | false =>
    cases r with
    | true =>
      cases s with
      | true =>
        cases p with
        | true =>
          cases c with
          | true =>
            go_enter Tryz.func20, Tryz.ntmps20
            go_wp2_with (first | (go_at_call 35; refine (HP.out _).mono ?_; rintro e w1 ⟨rfl, rfl⟩) | (go_at_call 18; refine (HN.out _).mono ?_; rintro e w1 ⟨rfl, rfl⟩))
            go_ret
            exact ⟨by simp [h2, h1, hB, hA], HB.out _⟩
          | false =>
            by_cases hd0 : d = 0
            · skip
              go_enter Tryz.func20, Tryz.ntmps20
              go_wp2_with (first | (go_at_call 35; refine (HP.out _).mono ?_; rintro e w1 ⟨rfl, rfl⟩) | (go_at_call 18; refine (HN.out _).mono ?_; rintro e w1 ⟨rfl, rfl⟩))
              go_ret
              exact ⟨by simp [h2, h1, hB, hA, hd0], HB.out _⟩
            · skip
              have hd1 : 0 < d := by omega
              go_enter Tryz.func20, Tryz.ntmps20
              go_wp2_with (first | (go_at_call 35; refine (HP.out _).mono ?_; rintro e w1 ⟨rfl, rfl⟩) | (go_at_call 18; refine (HN.out _).mono ?_; rintro e w1 ⟨rfl, rfl⟩))
              go_ret
              exact ⟨by simp [h2, h1, hB, hA, hd0], HB.out _⟩
        | false =>
          by_cases hn0 : n = 0
          · skip
            skip
            cases c with
            | true =>
              go_enter Tryz.func20, Tryz.ntmps20
              go_wp2_with (first | (go_at_call 35; refine (HP.out _).mono ?_; rintro e w1 ⟨rfl, rfl⟩) | (go_at_call 18; refine (HN.out _).mono ?_; rintro e w1 ⟨rfl, rfl⟩))
              go_ret
              exact ⟨by simp [h2, h1, hB, hA, hn0], HB.out _⟩
            | false =>
              by_cases hd0 : d = 0
              · skip
                go_enter Tryz.func20, Tryz.ntmps20
                go_wp2_with (first | (go_at_call 35; refine (HP.out _).mono ?_; rintro e w1 ⟨rfl, rfl⟩) | (go_at_call 18; refine (HN.out _).mono ?_; rintro e w1 ⟨rfl, rfl⟩))
                go_ret
                exact ⟨by simp [h2, h1, hB, hA, hn0, hd0], HB.out _⟩
              · skip
                have hd1 : 0 < d := by omega
                go_enter Tryz.func20, Tryz.ntmps20
                go_wp2_with (first | (go_at_call 35; refine (HP.out _).mono ?_; rintro e w1 ⟨rfl, rfl⟩) | (go_at_call 18; refine (HN.out _).mono ?_; rintro e w1 ⟨rfl, rfl⟩))
                go_ret
                exact ⟨by simp [h2, h1, hB, hA, hn0, hd0], HB.out _⟩
          · skip
            go_enter Tryz.func20, Tryz.ntmps20
            go_wp2_with (first | (go_at_call 35; refine (HP.out _).mono ?_; rintro e w1 ⟨rfl, rfl⟩) | (go_at_call 18; refine (HN.out _).mono ?_; rintro e w1 ⟨rfl, rfl⟩))
            go_ret
            exact ⟨by simp [h2, h1, hB, hA, hn0], HB.out _⟩
      | false =>
        cases k with
        | true =>
          cases p with
          | true =>
            cases c with
            | true =>
              go_enter Tryz.func20, Tryz.ntmps20
              go_wp2_with (first | (go_at_call 35; refine (HP.out _).mono ?_; rintro e w1 ⟨rfl, rfl⟩) | (go_at_call 18; refine (HN.out _).mono ?_; rintro e w1 ⟨rfl, rfl⟩))
              go_ret
              exact ⟨by simp [h2, h1, hB, hA], HB.out _⟩
            | false =>
              by_cases hd0 : d = 0
              · skip
                go_enter Tryz.func20, Tryz.ntmps20
                go_wp2_with (first | (go_at_call 35; refine (HP.out _).mono ?_; rintro e w1 ⟨rfl, rfl⟩) | (go_at_call 18; refine (HN.out _).mono ?_; rintro e w1 ⟨rfl, rfl⟩))
                go_ret
                exact ⟨by simp [h2, h1, hB, hA, hd0], HB.out _⟩
              · skip
                have hd1 : 0 < d := by omega
                go_enter Tryz.func20, Tryz.ntmps20
                go_wp2_with (first | (go_at_call 35; refine (HP.out _).mono ?_; rintro e w1 ⟨rfl, rfl⟩) | (go_at_call 18; refine (HN.out _).mono ?_; rintro e w1 ⟨rfl, rfl⟩))
                go_ret
                exact ⟨by simp [h2, h1, hB, hA, hd0], HB.out _⟩
          | false =>
            by_cases hn0 : n = 0
            · skip
              skip
              cases c with
              | true =>
                go_enter Tryz.func20, Tryz.ntmps20
                go_wp2_with (first | (go_at_call 35; refine (HP.out _).mono ?_; rintro e w1 ⟨rfl, rfl⟩) | (go_at_call 18; refine (HN.out _).mono ?_; rintro e w1 ⟨rfl, rfl⟩))
                go_ret
                exact ⟨by simp [h2, h1, hB, hA, hn0], HB.out _⟩
              | false =>
                by_cases hd0 : d = 0
                · skip
                  go_enter Tryz.func20, Tryz.ntmps20
                  go_wp2_with (first | (go_at_call 35; refine (HP.out _).mono ?_; rintro e w1 ⟨rfl, rfl⟩) | (go_at_call 18; refine (HN.out _).mono ?_; rintro e w1 ⟨rfl, rfl⟩))
                  go_ret
                  exact ⟨by simp [h2, h1, hB, hA, hn0, hd0], HB.out _⟩
                · skip
                  have hd1 : 0 < d := by omega
                  go_enter Tryz.func20, Tryz.ntmps20
                  go_wp2_with (first | (go_at_call 35; refine (HP.out _).mono ?_; rintro e w1 ⟨rfl, rfl⟩) | (go_at_call 18; refine (HN.out _).mono ?_; rintro e w1 ⟨rfl, rfl⟩))
                  go_ret
                  exact ⟨by simp [h2, h1, hB, hA, hn0, hd0], HB.out _⟩
            · skip
              go_enter Tryz.func20, Tryz.ntmps20
              go_wp2_with (first | (go_at_call 35; refine (HP.out _).mono ?_; rintro e w1 ⟨rfl, rfl⟩) | (go_at_call 18; refine (HN.out _).mono ?_; rintro e w1 ⟨rfl, rfl⟩))
              go_ret
              exact ⟨by simp [h2, h1, hB, hA, hn0], HB.out _⟩
        | false =>
          go_enter Tryz.func20, Tryz.ntmps20
          go_wp2_with (first | (go_at_call 35; refine (HP.out _).mono ?_; rintro e w1 ⟨rfl, rfl⟩) | (go_at_call 18; refine (HN.out _).mono ?_; rintro e w1 ⟨rfl, rfl⟩))
          go_ret
          exact ⟨by simp [h2, h1, hB, hA], HB.out _⟩
    | false =>
      go_enter Tryz.func20, Tryz.ntmps20
      go_wp2_with (first | (go_at_call 35; refine (HP.out _).mono ?_; rintro e w1 ⟨rfl, rfl⟩) | (go_at_call 18; refine (HN.out _).mono ?_; rintro e w1 ⟨rfl, rfl⟩))
      go_ret
      exact ⟨by simp [h2, h1, hB, hA], HB.out _⟩
end Go.Proofs.YtadgnafafdfioaaGreatDoor.Gr
