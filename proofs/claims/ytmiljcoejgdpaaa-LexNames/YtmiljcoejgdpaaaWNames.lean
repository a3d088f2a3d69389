/-
  THE WALK OF LexNames: the call gives true. Conditions: the theorem's own.
-/
import Derived.Test.YtmiljcoejgdpaaaAw
namespace Go.Proofs.Ytmiljcoejgdpaaa
set_option maxRecDepth 100000
open Go.RowKit
set_option linter.unusedVariables false

theorem dig_ok (m : Nat) : dgt (UInt8.ofNat ((48 + (m : Int) % 10).toNat)) = true := by
  have h : ((48 + (m : Int) % 10).toNat) = 48 + m % 10 := by omega
  rw [h]
  have h2 : m % 10 < 10 := Nat.mod_lt _ (by omega)
  generalize m % 10 = r at h2
  match r, h2 with
  | 0, _ => decide
  | 1, _ => decide
  | 2, _ => decide
  | 3, _ => decide
  | 4, _ => decide
  | 5, _ => decide
  | 6, _ => decide
  | 7, _ => decide
  | 8, _ => decide
  | 9, _ => decide
def signs : ByteArray := ⟨#[32, 65, 95, 61, 45, 46, 35]⟩
theorem sign_no (j : Nat) (h : j < signs.size) : ok (UInt8.ofNat (((signs[j].toNat : Nat) : Int).toNat)) = false := by
  have h7 : j < 7 := h
  match j, h7, h with
  | 0, _, _ => rfl
  | 1, _, _ => rfl
  | 2, _, _ => rfl
  | 3, _, _ => rfl
  | 4, _, _ => rfl
  | 5, _, _ => rfl
  | 6, _, _ => rfl
theorem more_nm (s : ByteArray) (m : Nat) (h : nm s.data.toList = true) : nm (s ++ strOfNums [48 + (m : Int) % 10]).data.toList = decide (s.size < 8) := by
  rw [app_list, strOfNums_data]
  exact nm_more h _ (dig_ok m)
theorem bad_nm (s : ByteArray) (K : Nat) (z : Int) (h : ok (UInt8.ofNat z.toNat) = false) : nm (s.extract 0 K ++ strOfNums [z] ++ s.extract K s.size).data.toList = false := by
  rw [app_list, app_list, strOfNums_data, List.append_assoc]
  exact nm_bad _ _ _ h
theorem one_nm (s : ByteArray) : nm ((⟨#[49]⟩ : ByteArray) ++ s).data.toList = false := by
  rw [app_list]
  exact nm_digit _ _ (by decide)

theorem lexNames_any (s : ByteArray) (d k : Int) (w : World) (hd : (Lit.int .u8 d).wf = true) (hk : (Lit.int .i64 k).wf = true) : Calls Try.prog 6 #[.string s, .int .u8 d, .int .i64 k] w fun e w' => e = .returned (.bool true) ∧ Below w.heap.size w w' := by
  by_cases hg : 20 < s.size
  · go_enter Try.func6, Try.ntmps6
    go_wp2_with fail
    refine (awake_any _).mono ?_
    rintro e w1 ⟨rfl, hB⟩
    go_wp2
    go_ret
    exact ⟨rfl, hB⟩
  · obtain ⟨r, hr⟩ : ∃ r, nm s.data.toList = r := ⟨_, rfl⟩
    have HR : Hid (nm s.data.toList = r) := hr
    cases r with
    | false =>
      go_enter Try.func6, Try.ntmps6
      go_wp2_with fail
      refine (name_any _ _).mono ?_
      rintro e w1 ⟨rfl, rfl⟩
      rw [hr]
      clear hr
      go_wp2_with fail
      refine (awake_any _).mono ?_
      rintro e w1 ⟨rfl, hB⟩
      go_wp2
      go_ret
      exact ⟨rfl, hB⟩
    | true =>
      obtain ⟨m, rfl, hm⟩ : ∃ m : Nat, d = (m : Int) ∧ m < 256 := by
        have e1 : IntKind.u8.min = 0 := by decide
        have e2 : IntKind.u8.max = 255 := by decide
        simp only [Lit.wf, Bool.and_eq_true, decide_eq_true_eq, e1, e2] at hd
        exact ⟨d.toNat, by omega, by omega⟩
      have hsz := (nm_len hr).2
      have hcv : ∀ (W : World) (z : Int), (convert 35 9 (.slice (some ⟨W.heap.size, 0, none⟩) 1 1)).run Try.prog (W.alloc (.cells #[.int .u8 z] 5)) = .ok (.string (strOfNums [z])) (W.alloc (.cells #[.int .u8 z] 5)) := fun W z =>
        run_convert_bytes_arg (P := Try.prog) (W.alloc (.cells #[.int .u8 z] 5)) 35 5 Try.underlying35 Try.underlying5 W.heap.size 0 1 1 [z] rfl (fun i hi => by
            obtain rfl : i = 0 := by omega
            rw [World.cell?_alloc_new]; rfl) 9 Try.underlying9
      have hcw : ∀ (W : World) (z : Int), (convert 35 9 (.slice (some ⟨W.heap.size, 0, none⟩) 1 1)).run Try.prog (W.alloc (.cells #[.int .u8 z] 5)).drew = .ok (.string (strOfNums [z])) (W.alloc (.cells #[.int .u8 z] 5)).drew := fun W z =>
        run_convert_bytes_arg (P := Try.prog) (W.alloc (.cells #[.int .u8 z] 5)).drew 35 5 Try.underlying35 Try.underlying5 W.heap.size 0 1 1 [z] rfl (fun i hi => by
            obtain rfl : i = 0 := by omega
            show (W.alloc (.cells #[.int .u8 z] 5)).cell? _ = _
            rw [World.cell?_alloc_new]; rfl) 9 Try.underlying9
      have hz : ∀ z : Int, (strOfNums [z]).size = 1 := fun _ => rfl
      go_enter Try.func6, Try.ntmps6
      go_wp2_with fail
      refine (name_any _ _).mono ?_
      rintro e w1 ⟨rfl, rfl⟩
      rw [hr]
      clear hr
      obtain ⟨K, hK, hKs⟩ : ∃ K : Nat, min (max k 0) (s.size : Int) = (K : Int) ∧ K ≤ s.size := ⟨(min (max k 0) (s.size : Int)).toNat, by omega, by omega⟩
      have k1 : (0 : Int) ≤ (K : Int) := by omega
      have k2 : (K : Int) ≤ (s.size : Int) := by omega
      obtain ⟨j, hj, hj7⟩ : ∃ j : Nat, (m : Int) % 7 = (j : Int) ∧ j < 7 := ⟨m % 7, by omega, by omega⟩
      have j1 : (0 : Int) ≤ (j : Int) := by omega
      have j2 : (j : Int) < 7 := by omega
      have hB1 : Below w1.heap.size w1 (w1.alloc (.cells #[.int .u8 (48 + (m : Int) % 10)] 5)) := (Below.refl _ w1).alloc (Nat.le_refl _) _
      go_wp2_with fail
      generalize w1.alloc (.cells #[.int .u8 (48 + (m : Int) % 10)] 5) = W2 at hB1 ⊢
      have he1 : (s.extract 0 K).size = K := by simp [ByteArray.size_extract]; omega
      have he2 : (s.extract K s.size).size = s.size - K := by simp [ByteArray.size_extract]
      have hm1 : K + 1 ≤ maxLen := by unfold maxLen; omega
      have hm2 : K + 1 + (s.size - K) ≤ maxLen := by unfold maxLen; omega
      go_region
      have n2 : nm (s.extract 0 K ++ strOfNums [(((⟨#[32, 65, 95, 61, 45, 46, 35]⟩ : ByteArray)[j].toNat : Nat) : Int)] ++ s.extract K s.size).data.toList = false := bad_nm s K _ (sign_no j hj7)
      have n1 := more_nm s m HR.out
      have n3 := one_nm s
      have hs8 : (s.size : Int) ≤ 8 := by have h1 : s.data.toList.length = s.size := rfl; omega
      have hB2 : Below w1.heap.size w1 (W2.alloc (.cells #[.int .u8 (((⟨#[32, 65, 95, 61, 45, 46, 35]⟩ : ByteArray)[j].toNat : Nat) : Int)] 5)).drew := (hB1.alloc hB1.size _).drew
      generalize s.extract 0 K ++ strOfNums [(((⟨#[32, 65, 95, 61, 45, 46, 35]⟩ : ByteArray)[j].toNat : Nat) : Int)] ++ s.extract K s.size = bad at n2 ⊢
      generalize s ++ strOfNums [48 + (m : Int) % 10] = more at n1 ⊢
      generalize (W2.alloc (.cells #[.int .u8 (((⟨#[32, 65, 95, 61, 45, 46, 35]⟩ : ByteArray)[j].toNat : Nat) : Int)] 5)).drew = W3 at hB2 ⊢
      clear hcv hcw he1 he2 hm1 hm2 hB1 hz
      go_wp2_with fail
      refine (name_any _ _).mono ?_
      rintro e w4 ⟨rfl, rfl⟩
      rw [n1]
      by_cases h8 : s.size < 8
      · rw [decide_eq_true h8]
        have g8 : decide ((s.size : Int) < 8) = true := by simp; omega
        go_wp2_with fail
        refine (name_any _ _).mono ?_
        rintro e w5 ⟨rfl, rfl⟩
        rw [n2]
        go_wp2_with fail
        refine (name_any _ _).mono ?_
        rintro e w6 ⟨rfl, rfl⟩
        rw [n3]
        go_wp2_with fail
        refine (awake_any _).mono ?_
        rintro e w7 ⟨rfl, hB⟩
        go_wp2
        go_ret
        exact ⟨by simp, hB2.trans (hB.mono hB2.size)⟩
      · rw [decide_eq_false h8]
        have g8 : decide ((s.size : Int) < 8) = false := by simp; omega
        go_wp2_with fail
        refine (name_any _ _).mono ?_
        rintro e w5 ⟨rfl, rfl⟩
        rw [n2]
        go_wp2_with fail
        refine (name_any _ _).mono ?_
        rintro e w6 ⟨rfl, rfl⟩
        rw [n3]
        go_wp2_with fail
        refine (awake_any _).mono ?_
        rintro e w7 ⟨rfl, hB⟩
        go_wp2
        go_ret
        exact ⟨by simp, hB2.trans (hB.mono hB2.size)⟩
end Go.Proofs.Ytmiljcoejgdpaaa
