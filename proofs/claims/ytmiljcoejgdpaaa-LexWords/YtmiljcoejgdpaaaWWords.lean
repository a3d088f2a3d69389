/-
  THE WALK OF LexWords: the call gives true. Conditions: the theorem's own (what the argument holds).
-/
import Derived.Test.YtmiljcoejgdpaaaAw
namespace Go.Proofs.Ytmiljcoejgdpaaa
set_option maxRecDepth 100000
open Go.RowKit
set_option linter.unusedVariables false

/-- the bytes of texts -/
def bts (zs : List ByteArray) : List Bt := zs.map fun z => z.data.toList
theorem bts_len (zs : List ByteArray) : (bts zs).length = zs.length := by simp [bts]
theorem bts_at {zs : List ByteArray} {k : Nat} {z : ByteArray} (h : zs[k]? = some z) : (bts zs)[k]? = some z.data.toList := by
  unfold bts; rw [List.getElem?_map, h]; rfl
theorem bts_more (zs : List ByteArray) (k : Nat) (z : ByteArray) (h : zs[k]? = some z) : bts (zs.take (k + 1)) = bts (zs.take k) ++ [z.data.toList] := by
  unfold bts; rw [take_more _ _ _ h, List.map_append]; rfl
theorem txts_get {zs : List ByteArray} {k : Nat} {z : ByteArray} (h : zs[k]? = some z) : (txts zs)[k]? = some (.string z) := by
  unfold txts; rw [List.getElem?_map, h]; rfl
theorem take_ne {zs : List ByteArray} {k : Nat} (h0 : 0 < k) (h : k ≤ zs.length) : bts (zs.take k) ≠ [] := fun e => by
  have := congrArg List.length e
  rw [bts_len, List.length_take, List.length_nil] at this
  omega

theorem lexWords_any (ao : Option Addr) (zs : List ByteArray) (c0 : Nat) (w : World) (hS : Row w ao (txts zs)) (hN : ao = none → c0 = 0) :
    Calls Try.prog 7 #[.slice ao zs.length c0] w fun e w' => e = .returned (.bool true) ∧ Below w.heap.size w w' := by
  clear hN
  have HS : Hid (Row w ao (txts zs)) := hS
  clear hS
  obtain ⟨N, hN⟩ : ∃ N, zs.length = N := ⟨_, rfl⟩
  have HN : Hid (zs.length = N) := hN
  rw [hN]
  clear hN
  by_cases hg : 30 < N
  · clear HS
    go_enter Try.func7, Try.ntmps7
    go_wp2_with fail
    refine (awake_any _).mono ?_
    rintro e w1 ⟨rfl, hB⟩
    go_wp2
    go_ret
    exact ⟨rfl, hB⟩
  go_enter Try.func7, Try.ntmps7
  go_wp2_with fail
  go_loop [3, 4, 17] (fun o r i => ∃ (k : Nat) (x y : ByteArray), i = .int .i64 (k : Int) ∧ o = .string x ∧ r = .string y ∧ k ≤ N ∧ x.size ≤ 9 * k ∧ y.size ≤ 9 * k ∧ (x.data.toList = jn 32 (bts (zs.take k)) ∧ y.data.toList = jn 10 (bts (zs.take k)) ∧ ∀ b ∈ bts (zs.take k), nm b = true)) (fun _ _ i => N - (intOf i).toNat)
  case atStart => exact ⟨0, ⟨#[]⟩, ⟨#[]⟩, rfl, rfl, rfl, by omega, Nat.le_refl _, Nat.le_refl _, rfl, rfl, fun b hb => by simp [bts] at hb⟩
  case round =>
    obtain ⟨k, x, y, rfl, rfl, rfl, hk, hxs, hys, hI⟩ := hrel
    have HI : Hid (x.data.toList = jn 32 (bts (zs.take k)) ∧ y.data.toList = jn 10 (bts (zs.take k)) ∧ ∀ b ∈ bts (zs.take k), nm b = true) := hI
    clear hI
    by_cases hkn : k < N
    · obtain ⟨z, hz⟩ := getE zs k (by rw [HN.out]; exact hkn)
      obtain ⟨b, off, rfl, hc⟩ := HS.out k _ (txts_get hz)
      have HZ : Hid (bts (zs.take (k + 1)) = bts (zs.take k) ++ [z.data.toList]) := bts_more _ _ _ hz
      have HE : Hid (0 < k → bts (zs.take k) ≠ []) := fun h => take_ne h (by rw [HN.out]; exact hk)
      clear hz
      go_wp2_with fail
      refine (name_any _ _).mono ?_
      rintro e w1 ⟨rfl, rfl⟩
      obtain ⟨r, hr⟩ : ∃ r, nm z.data.toList = r := ⟨_, rfl⟩
      have HR : Hid (nm z.data.toList = r) := hr
      rw [hr]
      clear hr
      cases r with
      | false =>
        go_wp2_with fail
        refine (awake_any _).mono ?_
        rintro e w2 ⟨rfl, hB⟩
        go_wp2
        go_ret
        exact ⟨rfl, hB⟩
      | true =>
        have hzl : z.size ≤ 8 := (nm_len HR.out).2
        have HA : Hid (∀ b ∈ bts (zs.take (k + 1)), nm b = true) := by
          intro b hb
          rw [HZ.out] at hb
          rcases List.mem_append.1 hb with h | h
          · exact HI.out.2.2 b h
          · rw [List.mem_singleton.1 h]; exact HR.out
        by_cases hk0 : 0 < k
        · have e1 : Hid ((x ++ (⟨#[32]⟩ : ByteArray) ++ z).data.toList = jn 32 (bts (zs.take (k + 1)))) := by
            show _ = _
            rw [HZ.out, jn_app _ _ _ (HE.out hk0), ← HI.out.1, app_list, app_list, List.append_assoc]; rfl
          have e2 : Hid ((y ++ (⟨#[10]⟩ : ByteArray) ++ z).data.toList = jn 10 (bts (zs.take (k + 1)))) := by
            show _ = _
            rw [HZ.out, jn_app _ _ _ (HE.out hk0), ← HI.out.2.1, app_list, app_list, List.append_assoc]; rfl
          have s1 : (x ++ (⟨#[32]⟩ : ByteArray)).size = x.size + 1 := by rw [size_app]; rfl
          have s2 : (y ++ (⟨#[10]⟩ : ByteArray)).size = y.size + 1 := by rw [size_app]; rfl
          have s3 : (x ++ (⟨#[32]⟩ : ByteArray) ++ z).size = x.size + 1 + z.size := by rw [size_app, s1]
          have s4 : (y ++ (⟨#[10]⟩ : ByteArray) ++ z).size = y.size + 1 + z.size := by rw [size_app, s2]
          clear HI HR HZ HE
          go_wp2
          go_round
          case rel => exact ⟨k + 1, _, _, by go_num, rfl, rfl, by omega, by rw [s3]; omega, by rw [s4]; omega, e1.out, e2.out, HA.out⟩
          case measure => simp [intOf]; omega
        · obtain rfl : k = 0 := by omega
          have hx0 : x.size = 0 := by omega
          have hy0 : y.size = 0 := by omega
          have e1 : Hid ((x ++ z).data.toList = jn 32 (bts (zs.take (0 + 1)))) := by
            show _ = _
            rw [HZ.out, app_list, empty_list hx0]; simp [bts, jn, sep]
          have e2 : Hid ((y ++ z).data.toList = jn 10 (bts (zs.take (0 + 1)))) := by
            show _ = _
            rw [HZ.out, app_list, empty_list hy0]; simp [bts, jn, sep]
          have s3 : (x ++ z).size = x.size + z.size := size_app _ _
          have s4 : (y ++ z).size = y.size + z.size := size_app _ _
          clear HI HR HZ HE
          go_wp2
          go_round
          case rel => exact ⟨1, _, _, by go_num, rfl, rfl, by omega, by rw [s3]; omega, by rw [s4]; omega, e1.out, e2.out, HA.out⟩
          case measure => simp [intOf]; omega
    · obtain rfl : k = N := by omega
      have et : zs.take k = zs := List.take_of_length_le (by rw [HN.out]; exact Nat.le_refl _)
      rw [et] at HI
      clear et hk hkn
      have k1 : ∀ w, Calls Try.prog 11 #[.string x] w _ := fun w => lines_any x w (by omega)
      have k2 : ∀ w, Calls Try.prog 11 #[.string y] w _ := fun w => lines_any y w (by omega)
      go_wp2_with fail
      refine (k1 _).mono ?_
      rintro e w1 ⟨va, ua, rfl, hA, hB1⟩
      go_wp2_with fail
      refine (k2 _).mono ?_
      rintro e w2 ⟨vb, ub, rfl, hL, hB2⟩
      clear k1 k2
      have hA2 := hA.below hB2
      have hB : Below w.heap.size w w2 := hB1.trans (hB2.mono hB1.size)
      clear hA hB1 hB2
      have hpl : ∀ b ∈ bts zs, b ≠ [] ∧ plain b := fun b hb => ⟨(nm_len (HI.out.2.2 b hb)).1, nm_plain (HI.out.2.2 b hb)⟩
      by_cases hk0 : k = 0
      · subst hk0
        have hz0 : zs = [] := List.length_eq_zero_iff.1 HN.out
        have ex : lns x.data.toList = [] := by rw [HI.out.1, hz0]; rfl
        have ey : lns y.data.toList = [] := by rw [HI.out.2.1, hz0]; rfl
        rw [ex] at hA2
        rw [ey] at hL
        obtain ⟨aa, ca, rfl, _, _⟩ := hA2.form
        obtain ⟨ab, cb, rfl, _, _⟩ := hL.form
        clear hA2 hL hpl HI HS
        go_wp2_with fail
        refine (awake_any _).mono ?_
        rintro e w3 ⟨rfl, hB3⟩
        go_wp2
        go_ret
        exact ⟨rfl, hB.trans (hB3.mono hB.size)⟩
      · have hne : bts zs ≠ [] := fun e => hk0 (by rw [← HN.out, ← bts_len, e]; rfl)
        have ex : lns x.data.toList = [(1, bts zs)] := by rw [HI.out.1]; exact lns_blanks hpl hne
        have ey : lns y.data.toList = rows 1 (bts zs) := by rw [HI.out.2.1]; exact lns_rows hpl
        rw [ex] at hA2
        rw [ey] at hL
        clear ex ey hpl HI hne
        obtain ⟨g1, p1, u1, rfl, ha1, ha2, how1, hg1⟩ := hA2.get (i := 0) rfl
        obtain ⟨ab, cb, rfl, _, _⟩ := hL.form
        have HO1 : Hid (Ow w2 u1 (bts zs)) := how1
        obtain ⟨a1, q1, rfl, _, _⟩ := how1.form
        have HL : Hid (Ls w2 w1.heap.size 33 (.slice ab (rows 1 (bts zs)).length cb) ub (rows 1 (bts zs))) := hL
        clear hA2 hL how1
        have hrl : (rows 1 (bts zs)).length = k := by rw [rows_len, bts_len, HN.out]
        have hbl : (bts zs).length = k := by rw [bts_len, HN.out]
        rw [hbl] at ha2
        rw [hrl]
        have HRL : Hid ((rows 1 (bts zs)).length = k) := hrl
        have HBL : Hid ((bts zs).length = k) := hbl
        clear hrl hbl
        have HS2 : Hid (Row w2 ao (txts zs)) := HS.out.below hB
        have hk1 : 0 < k := by omega
        have q0 : ((k : Int) == 0) = false := by simp; omega
        clear HS
        go_wp2_with fail
        go_loop [84] (fun i => ∃ q : Nat, i = .int .i64 (q : Int) ∧ q ≤ k) (fun i => k - (intOf i).toNat)
        case atStart => exact ⟨0, rfl, by omega⟩
        case round =>
          obtain ⟨q, rfl, hq⟩ := hrel
          by_cases hqk : q < k
          · obtain ⟨z, hz⟩ := getE zs q (by rw [HN.out]; exact hqk)
            obtain ⟨b0, off, rfl, hc⟩ := HS2.out q _ (txts_get hz)
            have hbz := bts_at hz
            obtain ⟨f1, r1, hv1, hx1, _⟩ := HO1.out.get hbz
            rw [HBL.out] at hv1
            have hv1' : a1 = some ⟨f1, 0, none⟩ ∧ q1 = r1 := by
              have := HBL.out
              simpa [this] using hv1
            obtain ⟨rfl, rfl⟩ := hv1'
            obtain ⟨g2, p2, u2, hv2, hb1, hb2, how2, _⟩ := HL.out.get (rows_at (bts zs) 1 q _ hbz)
            obtain ⟨rfl, rfl⟩ : ab = some ⟨g2, 0, none⟩ ∧ cb = p2 := by simpa using hv2
            obtain ⟨f2, r2, rfl, hx2, _⟩ := how2.get (k := 0) rfl
            rw [toArray_data] at hx1 hx2
            rw [show ((1 + q : Nat) : Int) = (q : Int) + 1 by omega] at hb1
            clear hv1 hv2 how2 hz hbz
            have q1 : (0 : Int) ≤ (q : Int) := by omega
            have q2 : (q : Int) < (k : Int) := by omega
            go_wp2
            go_round
            case rel => exact ⟨q + 1, by go_num, by omega⟩
            case measure => simp [intOf]; omega
          · obtain rfl : q = k := by omega
            go_wp2_with fail
            refine (awake_any _).mono ?_
            rintro e w3 ⟨rfl, hB3⟩
            go_wp2
            go_ret
            exact ⟨rfl, hB.trans (hB3.mono hB.size)⟩
end Go.Proofs.Ytmiljcoejgdpaaa
