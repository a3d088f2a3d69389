/-
  THE DOCUMENT'S QUOTIENTS AND DIVISORS: what a call of Div and Gcd (the document's) gives. Conditions: sizes; the texts are naturals; the divisor is above 0.
-/
import Derived.Test.YtpmnfgbbkmodpaaGreatDoorRefOps
namespace Go.Proofs.YtpmnfgbbkmodpaaGreatDoor
set_option maxRecDepth 100000
open Go.RowKit Nm
set_option linter.unusedVariables false

theorem ext_one (a : ByteArray) (k : Nat) (h : k < a.size) : (a.extract k (k + 1)).data.toList = [a[k]] := by
  rw [Lib.extract_data, show k + 1 - k = 1 by omega]
  have h' : k < a.data.toList.length := by rw [len_data]; exact h
  rw [List.drop_eq_getElem_cons h']
  simp
  rfl

theorem app_toList (s t : ByteArray) : (s ++ t).data.toList = s.data.toList ++ t.data.toList := by simp [ByteArray.data_append]

theorem div_snoc (P c y : Nat) (hy : 0 < y) : (P * 10 + c) / y = P / y * 10 + (P % y * 10 + c) / y ∧ (P * 10 + c) % y = (P % y * 10 + c) % y := by
  have h := Nat.div_add_mod P y
  have e : P * 10 + c = y * (P / y * 10) + (P % y * 10 + c) := by
    have : P * 10 = (y * (P / y) + P % y) * 10 := by rw [h]
    rw [this, Nat.add_mul, Nat.mul_assoc]; omega
  rw [e, Nat.mul_add_div hy, Nat.mul_add_mod]
  exact ⟨rfl, rfl⟩

def strVal : Value → Nat | .string s => dv s.data.toList | _ => 0

theorem str1 (d : Nat) (h : d < 10) : (strOfNums [48 + (d : Int)]).data.toList = [UInt8.ofNat (48 + d)] := by
  rw [strOfNums_data]
  simp only [List.map_cons, List.map_nil]
  rw [show (48 + (d : Int)).toNat = 48 + d by omega]

set_option maxRecDepth 100000 in
set_option maxHeartbeats 2000000 in
theorem refDiv_any (x y : Nat) (w : World) (hx : tl x ≤ 500) (hy : tl y ≤ 500) (h0 : 0 < y) :
    Calls Tryz.prog 50 #[.string (S x), .string (S y)] w fun e w' => e = .returned (.tuple #[.string (S (x / y)), .string (S (x % y))]) ∧ Below w.heap.size w w' := by
  have dx := rt_dg (rt_S x)
  have zx : (S x).size ≤ 500 := by rw [S_size]; exact hx
  have vx : dv (S x).data.toList = x := dv_S x
  have VX : Hid _ := vx
  clear vx
  generalize S x = a at *
  go_enter Tryz.func50, Tryz.ntmps50
  go_wp2_with fail
  go_loopw [6, 7, 8] (fun q l i wr => ∃ (k : Nat) (qs : ByteArray), k ≤ a.size ∧ i = .int .i64 (k : Nat) ∧ q = .string qs ∧ l = .string (S (dv (a.data.toList.take k) % y)) ∧ qs.size = k ∧ Dg qs.data.toList ∧ dv qs.data.toList = dv (a.data.toList.take k) / y ∧ Below w.heap.size w wr) (fun _ _ i _ => a.size - (intOf i).toNat)
  case atStart =>
    refine ⟨0, ⟨#[]⟩, by omega, rfl, rfl, ?_, rfl, fun c hc => by simp at hc, ?_, Below.refl _ _⟩
    · rw [List.take_zero, dv_nil, Nat.zero_mod, S_zero]
    · rw [List.take_zero, dv_nil, Nat.zero_div]
  case round =>
    obtain ⟨k, qs, hk, rfl, rfl, rfl, hqz, hqd, hqv, hB⟩ := hrel
    have HQZ : Hid _ := hqz
    have hqs : qs.size ≤ 500 := by omega
    have HQV : Hid _ := hqv
    clear hqz hqv
    by_cases hlt : k < a.size
    · have hdig := dx _ (mem_at a k hlt)
      obtain ⟨P, hP⟩ : ∃ P, P = dv (a.data.toList.take k) := ⟨_, rfl⟩
      have hsn : dv (a.data.toList.take (k + 1)) = P * 10 + (a[k].toNat - 48) := by rw [take_snoc a k hlt, dv_snoc, hP]
      rw [← hP]
      rw [← hP] at HQV
      obtain ⟨c, hc⟩ : ∃ c, c = a[k].toNat - 48 := ⟨_, rfl⟩
      rw [← hc] at hsn
      have hcl : c < 10 := by omega
      obtain ⟨s1, s2⟩ := div_snoc P c y h0
      have hr := Nat.mod_lt P h0
      have HSN : Hid _ := hsn
      have S1' : Hid _ := s1
      have S2' : Hid _ := s2
      have hPx : P ≤ x := by
        have := dv_append (a.data.toList.take k) (a.data.toList.drop k)
        rw [List.take_append_drop, VX.out, ← hP] at this
        have : P * 1 ≤ P * 10 ^ (a.data.toList.drop k).length := Nat.mul_le_mul_left _ (pos10 _)
        omega
      have e1 : (S (P % y) ++ a.extract k (k + 1)).data.toList = tx (P % y) ++ [a[k]] := by rw [app_toList, S_data, ext_one a k hlt]
      have trm : tl (P % y) ≤ tl y := tl_mono (by omega)
      have hpl : (S (P % y) ++ a.extract k (k + 1)).size ≤ 100000 := by rw [← len_data, e1, List.length_append]; show tl (P % y) + 1 ≤ 100000; omega
      have hpd : Dg (S (P % y) ++ a.extract k (k + 1)).data.toList := by
        rw [e1]; intro d hd
        rcases List.mem_append.1 hd with h | h
        · exact rt_dg (rt_tx _) d h
        · simp at h; subst h; exact hdig
      have hpv : dv (S (P % y) ++ a.extract k (k + 1)).data.toList = P % y * 10 + c := by rw [e1, dv_snoc, dv_tx, hc]
      have HPV : Hid _ := hpv
      have HPD : Hid _ := hpd
      have HPL : Hid _ := hpl
      have HP : Hid _ := hP
      have HC : Hid _ := hc
      clear hsn s1 s2 e1 hpv hpd hpl hP hc hdig
      obtain ⟨T, hT⟩ : ∃ T, T = P % y * 10 + c := ⟨_, rfl⟩
      have hTy : T < 10 * y := by omega
      have hz1 : (S (P % y)).size ≤ 500 := by rw [S_size]; omega
      have htT : tl T ≤ 600 := by
        have q1 : T ≤ y * 10 := by omega
        have q2 := tl_mono q1
        have q3 := tl_mul y 10
        have q4 : tl 10 ≤ 2 := tl_le (by decide) (by decide)
        omega
      rw [← hT] at HPV S1' S2'
      have HT : Hid _ := hT
      clear hT
      go_wp2_with fail
      refine (plain_is (S (P % y) ++ a.extract k (k + 1)) T _ HPL.out HPD.out HPV.out).mono ?_
      rintro e w1 ⟨rfl, rfl⟩
      go_wp2_with fail
      obtain ⟨wo, hwo⟩ : ∃ wo : World, wo = w1 := ⟨_, rfl⟩
      subst hwo
      go_loopw [7, 9] (fun l i wr => ∃ v d : Nat, l = .string (S v) ∧ i = .int .i64 (d : Nat) ∧ v + d * y = T ∧ Below w.heap.size w wr) (fun l _ _ => strVal l)
      case atStart => exact ⟨T, 0, rfl, rfl, by omega, hB⟩
      case round =>
        obtain ⟨v, d, rfl, rfl, hvd, hB'⟩ := hrel
        have hd10 : d < 10 := by
          have : d * y < 10 * y := by omega
          exact Nat.lt_of_mul_lt_mul_right this
        have tv : tl v ≤ 600 := Nat.le_trans (tl_mono (by omega)) htT
        have HVD : Hid _ := hvd
        by_cases hvy : v < y
        · have hsg : sg v y < 0 := by rw [sg_lt (by omega)]; omega
          have hq : T / y = d ∧ T % y = v := by
            rw [← hvd, Nat.add_comm, Nat.mul_comm d y]
            exact ⟨by rw [Nat.mul_add_div h0, Nat.div_eq_of_lt hvy]; omega, by rw [Nat.mul_add_mod, Nat.mod_eq_of_lt hvy]⟩
          have HQ : Hid _ := hq
          clear hq hvd
          have hcv := run_convert_bytes_arg (P := Tryz.prog) (wr.alloc (.cells #[.int .u8 (48 + (d : Int))] 5)) 80 5 Tryz.underlying80 Tryz.underlying5 wr.heap.size 0 1 1 [48 + (d : Int)] rfl (fun i hi => by
            obtain rfl : i = 0 := by omega
            rw [World.cell?_alloc_new]; rfl) 9 Tryz.underlying9
          have hst := str1 d hd10
          have hsd : (strOfNums [48 + (d : Int)]).size ≤ 1 := by rw [strOfNums_size]; simp
          have HST : Hid _ := hst
          clear hst
          have hB2 := hB'.alloc hB'.size (.cells #[.int .u8 (48 + (d : Int))] 5)
          generalize strOfNums [48 + (d : Int)] = sd at *
          go_wp2_with fail
          refine (refCompare_any v y _ (by omega) (by omega)).mono ?_
          rintro e w3 ⟨rfl, rfl⟩
          go_wp2
          go_roundw
          case rel =>
            have eq1 : (qs ++ sd).data.toList = qs.data.toList ++ [UInt8.ofNat (48 + d)] := by rw [app_toList, HST.out]
            refine ⟨k + 1, qs ++ sd, by omega, by go_num, rfl, ?_, ?_, ?_, ?_, hB2⟩
            · rw [HSN.out, S2'.out, HQ.out.2]
            · rw [← len_data, eq1, List.length_append, len_data, HQZ.out]; rfl
            · rw [eq1]; intro e he
              rcases List.mem_append.1 he with h | h
              · exact hqd e h
              · simp only [List.mem_singleton] at h; subst h; rw [toNat_dig hd10]; omega
            · rw [eq1, dv_snoc, HQV.out, HSN.out, S1'.out, HQ.out.1, toNat_dig hd10]; omega
          case measure => simp [intOf]; omega
        · have hsg : ¬ sg v y < 0 := sg_nonneg (by omega)
          go_wp2_with fail
          refine (refCompare_any v y _ (by omega) (by omega)).mono ?_
          rintro e w3 ⟨rfl, rfl⟩
          go_wp2_with fail
          refine (refSub_any v y _ (by omega) (by omega) (by omega)).mono ?_
          rintro e w4 ⟨rfl, b4⟩
          have hB4 := hB'.trans (b4.mono hB'.size)
          go_wp2
          go_roundw
          case rel => exact ⟨v - y, d + 1, rfl, by go_num, by have := HVD.out; rw [Nat.add_mul, Nat.one_mul]; omega, hB4⟩
          case measure => simp only [strVal, dv_S]; omega
    · obtain rfl : k = a.size := by omega
      have htk : a.data.toList.take a.size = a.data.toList := List.take_of_length_le (by rw [len_data]; exact Nat.le_refl _)
      rw [htk, VX.out] at HQV ⊢
      go_wp2_with fail
      refine (plain_is qs (x / y) _ (by omega) hqd HQV.out).mono ?_
      rintro e w1 ⟨rfl, rfl⟩
      go_wp2
      go_ret2
      exact ⟨rfl, hB⟩

set_option maxRecDepth 100000 in
set_option maxHeartbeats 1000000 in
theorem refGcd_any (x y : Nat) (w : World) (hx : tl x ≤ 400) (hy : tl y ≤ 400) :
    Calls Tryz.prog 49 #[.string (S x), .string (S y)] w fun e w' => e = .returned (.string (S (Nat.gcd x y))) ∧ Below w.heap.size w w' := by
  go_enter Tryz.func49, Tryz.ntmps49
  go_wp2_with fail
  go_loopw [0, 1] (fun a b wr => ∃ u v : Nat, a = .string (S u) ∧ b = .string (S v) ∧ tl u ≤ 400 ∧ tl v ≤ 400 ∧ Nat.gcd u v = Nat.gcd x y ∧ Below w.heap.size w wr) (fun _ b _ => strVal b)
  case atStart => exact ⟨x, y, rfl, rfl, hx, hy, rfl, Below.refl _ _⟩
  case round =>
    obtain ⟨u, v, rfl, rfl, hu, hv, hg, hB⟩ := hrel
    have HG : Hid _ := hg
    clear hg
    rcases Nat.eq_zero_or_pos v with c | c
    · subst c
      have e0 : ((S 0).toList == [48]) = true := by rw [S_zero, toList_data]; rfl
      have HR : Hid (Nat.gcd x y = u) := by
        show _ = u
        rw [← HG.out, Nat.gcd_zero_right]
      go_wp2
      go_ret
      exact ⟨by rw [HR.out]; rfl, hB⟩
    · have e0 := eq0 v c
      have hm := Nat.mod_lt u c
      have HR : Hid (Nat.gcd v (u % v) = Nat.gcd x y) := by
        show _ = _
        rw [← HG.out, Nat.gcd_comm v, ← Nat.gcd_rec, Nat.gcd_comm]
      have ht : tl (u % v) ≤ 400 := Nat.le_trans (tl_mono (by omega)) hv
      go_wp2_with fail
      refine (refDiv_any u v _ (by omega) (by omega) c).mono ?_
      rintro e w2 ⟨rfl, b2⟩
      have hB2 := hB.trans (b2.mono hB.size)
      go_wp2
      go_roundw
      case rel => exact ⟨v, u % v, rfl, rfl, hv, ht, HR.out, hB2⟩
      case measure => simp only [strVal, dv_S]; exact hm
end Go.Proofs.YtpmnfgbbkmodpaaGreatDoor
