/-
  A TEXT WITHOUT NOUGHTS AHEAD: what a call of the document's Plain gives, of digits. Conditions: size.
-/
import Derived.Test.YtpmnfgbbkmodpaaGreatDoorAwake
namespace Go.Proofs.YtpmnfgbbkmodpaaGreatDoor
set_option maxRecDepth 100000
open Go.RowKit Nm
set_option linter.unusedVariables false

def strLen : Value → Nat | .string t => t.size | _ => 0

theorem one_off (t : ByteArray) (h : 0 < t.size) : (t.extract 1 t.size).data.toList = t.data.toList.tail := by
  rw [Lib.extract_data, ← len_data, List.take_of_length_le (by simp), List.drop_one]

theorem cons_of (t : ByteArray) (h : 0 < t.size) : t.data.toList = t[0] :: t.data.toList.tail := by
  have h' : t.data.toList ≠ [] := fun e => by have := len_data t; rw [e] at this; simp at this; omega
  have hh := head_eq h
  match hl : t.data.toList, h' with
  | c :: l, _ => rw [hl] at hh; simp at hh; rw [hh]; rfl

set_option maxHeartbeats 1000000 in
theorem plain_any (s : ByteArray) (w : World) (hs : s.size ≤ 100000) (hd : Dg s.data.toList) :
    Calls Tryz.prog 71 #[.string s] w fun e w' => e = .returned (.string (S (dv s.data.toList))) ∧ w' = w := by
  generalize hn : dv s.data.toList = n
  have HN : Hid _ := hn
  clear hn
  go_enter Tryz.func71, Tryz.ntmps71
  go_wp2_with fail
  go_loop [0] (fun v => ∃ t : ByteArray, v = .string t ∧ t.size ≤ 100000 ∧ Dg t.data.toList ∧ dv t.data.toList = n) (fun v => strLen v)
  case atStart => exact ⟨s, rfl, hs, hd, HN.out⟩
  case round =>
    obtain ⟨t, rfl, ht, hdt, hvt⟩ := hrel
    have HV : Hid _ := hvt
    clear hvt
    rcases Nat.lt_trichotomy t.size 1 with c | c | c
    · have h0 : t.data.toList = [] := List.length_eq_zero_iff.1 (by rw [len_data]; omega)
      have hE : t.toList.isEmpty = true := by rw [toList_data, h0]; rfl
      have HR : Hid (S n = ⟨#[48]⟩) := by
        show S n = _
        rw [← HV.out, h0]; exact S_zero
      clear h0
      go_wp2
      go_ret
      exact ⟨by rw [HR.out]; rfl, rfl⟩
    · have hc := cons_of t (by omega)
      have hE : t.toList.isEmpty = false := by rw [toList_data, hc]; rfl
      have HR : Hid (t = S n) := by
        show t = S n
        rw [← HV.out]
        exact S_of ((rt_iff _).2 ⟨hdt, Or.inl (by rw [len_data]; exact c)⟩)
      have c' : ¬ 1 < t.size := by omega
      clear hc c
      go_wp2
      go_ret
      exact ⟨by rw [← HR.out]; rfl, rfl⟩
    · have h0 : 0 < t.size := by omega
      have hc := cons_of t h0
      have hE : t.toList.isEmpty = false := by rw [toList_data, hc]; rfl
      by_cases d : t[0].toNat = 48
      · have e48 : (((t[0].toNat : Nat) : Int) == 48) = true := by simp [d]
        have o1 := one_off t h0
        have P : Hid ((t.extract 1 t.size).size = t.size - 1 ∧ Dg (t.extract 1 t.size).data.toList ∧ dv (t.extract 1 t.size).data.toList = n) := by
          refine ⟨?_, ?_, ?_⟩
          · rw [← len_data, o1, List.length_tail, len_data]
          · rw [o1]; exact fun x hx => hdt x (List.mem_of_mem_tail hx)
          · rw [o1, ← HV.out]
            conv => rhs; rw [hc, dv_cons, d]
            simp
        clear o1 d hc
        go_wp2
        go_round
        case rel => exact ⟨_, rfl, by rw [P.out.1]; omega, P.out.2.1, P.out.2.2⟩
        case measure => simp only [strLen]; rw [P.out.1]; omega
      · have e48 : (((t[0].toNat : Nat) : Int) == 48) = false := by simp; omega
        have HR : Hid (t = S n) := by
          show t = S n
          rw [← HV.out]
          refine S_of ((rt_iff _).2 ⟨hdt, Or.inr ⟨by rw [len_data]; exact c, ?_⟩⟩)
          rw [head_eq h0]
          intro e
          simp at e
          exact d (by rw [e]; rfl)
        clear hc d
        go_wp2
        go_ret
        exact ⟨by rw [← HR.out]; rfl, rfl⟩
end Go.Proofs.YtpmnfgbbkmodpaaGreatDoor
