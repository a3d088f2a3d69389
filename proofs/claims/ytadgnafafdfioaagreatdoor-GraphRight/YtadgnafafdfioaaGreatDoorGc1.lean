/-
  given: HAS A NODE OF NO PARTS WHAT IT MUST? Conditions: each theorem's own.
-/
import Derived.Test.YtadgnafafdfioaaGreatDoorGa
import Derived.Test.YtadgnafafdfioaaGreatDoorGx
import Derived.Test.YtadgnafafdfioaaGreatDoorNam
import Derived.Test.YtadgnafafdfioaaGreatDoorApi
namespace Go.Proofs.YtadgnafafdfioaaGreatDoor.Gr
open Go.Proofs.YtadgnafafdfioaaGreatDoor.Rd
set_option maxRecDepth 100000
open Go.RowKit
set_option linter.unusedVariables false
set_option linter.unusedSimpArgs false

set_option maxHeartbeats 2000000 in
theorem given_any (op name K : ByteArray) (A B n : Int) (zs : List Int) (data : List ByteArray) (sc dc : Nat) (sa da : Option Addr) (aF aZ : Addr) (w : World) (hE : Er w aF aZ) (hS : Sp.Sl w sa zs) (hD : Row w da (txts data)) (hzs : zs.length ≤ 1000) (hdl : data.length ≤ 1000000) (hds : ∀ x ∈ data, x.size ≤ 20000) :
    Calls Tryz.prog 36 #[.agg #[.string op, .int .i64 A, .int .i64 B, .string name, .slice sa zs.length sc, .string K, .int .i64 n, .slice da data.length dc]] w fun e w' => e = .returned (.bool (gvn ⟨op, A, B, name, zs, K, n, data⟩)) ∧ Below w.heap.size w w' := by
  unfold gvn
  simp only
  obtain ⟨q, hq⟩ : ∃ b, nmd op = b := ⟨_, rfl⟩
  have HN : Hid (∀ v, Calls Tryz.prog 18 #[.string op] v fun e w' => e = .returned (.bool q) ∧ w' = v) := fun v => hq ▸ named_any op v
  rw [hq]
  clear hq
  have HB : Hid (∀ o, Below w.heap.size w (w.alloc o)) := fun o => bl_alloc (Below.refl _ _) o
  cases q with
  | true =>
    obtain ⟨m, hm⟩ : ∃ b, nmb name = b := ⟨_, rfl⟩
    have HM : Hid (∀ v, Calls Tryz.prog 49 #[.string name] v fun e w' => e = .returned (.bool m) ∧ w' = v) := fun v => hm ▸ Lx.name_any name v
    rw [hm]
    clear hm hE hS hD
    generalize zs.length = sl
    generalize data.length = dl
    go_enter Tryz.func36, Tryz.ntmps36
    go_wp2_with fail
    refine (HN.out _).mono ?_
    rintro e w1 ⟨rfl, rfl⟩
    go_wp2_with fail
    refine (HM.out _).mono ?_
    rintro e w1 ⟨rfl, rfl⟩
    go_wp2
    go_ret
    exact ⟨by simp, HB.out _⟩
  | false =>
    obtain ⟨m1, hm1⟩ : ∃ k : Nat, Sp.szI zs = k := ⟨_, rfl⟩
    have HZ : Hid (∀ v, Below w.heap.size w v → Calls Tryz.prog 39 #[.slice sa zs.length sc] v fun e w' => e = .returned (.int .i64 (m1 : Nat)) ∧ w' = v) := fun v hv => hm1 ▸ Sp.size_any sa zs sc v hzs (sl_below hS hv)
    have HM : Hid ((∀ i, i < data.length → ra (data.getD i em) = true) → data.all ra = true) := all_y
    have HNo : Hid (∀ i, i < data.length → ra (data.getD i em) = false → data.all ra = false) := fun i hi h => all_n hi h
    have HRx : Hid (∀ v, Below w.heap.size w v → ∀ i, i < data.length → ∃ b off, da = some ⟨b, off, none⟩ ∧ v.cell? ⟨b, off + i, none⟩ = some (.string (data.getD i em))) := fun v hv i hi => row_s (Row.below hD hv) hi
    have HS : Hid (∀ i, i < data.length → (data.getD i em).size ≤ 20000) := fun i hi => by rw [List.getD_eq_getElem?_getD, List.getElem?_eq_getElem hi]; exact hds _ (List.getElem_mem hi)
    have HE : Hid _ := hE
    generalize data.all ra = al at HM HNo ⊢
    obtain ⟨N, hN⟩ : ∃ N, data.length = N := ⟨_, rfl⟩
    rw [hN] at HM HNo HRx HS hdl ⊢
    rw [hm1]
    clear hN hm1 hE hS hD hds
    generalize zs.length = sl at HZ hzs ⊢
    go_enter Tryz.func36, Tryz.ntmps36
    go_wp2_with fail
    refine (HN.out _).mono ?_
    rintro e w1 ⟨rfl, rfl⟩
    go_upto_region 3 with fail
    go_quiet ((go_at_call 39; exact Calls.quiet_of_same (HZ.out _ (bl_n (HB.out _) _))))
    obtain ⟨cn, hcn⟩ : ∃ b, ((N : Int) != (m1 : Int)) = b := ⟨_, rfl⟩
    have heq : cn = !decide (N = m1) := by
      rw [← hcn]
      by_cases h : N = m1
      · simp [h]
      · have h' : ¬ (N : Int) = (m1 : Int) := by omega
        simp [h, h', bne]
    have HEq : Hid _ := heq
    clear heq
    simp only [hcn]
    clear hcn
    cases cn with
    | true =>
      go_wp2
      go_ret
      exact ⟨by have := HEq.out; simp at this; simp [this], bl_n (HB.out _) _⟩
    | false =>
    have her : N = m1 := by have := HEq.out; simpa using this.symm
    have HEr : Hid _ := her
    clear her
    go_wp2_with fail
    go_loopw [21] (fun i wr => ∃ k : Nat, k ≤ N ∧ i = .int .i64 (k : Int) ∧ (∀ j, j < k → ra (data.getD j em) = true) ∧ Below w.heap.size w wr) (fun i _ => N - (intOf i).toNat)
    case atStart => exact ⟨0, by omega, rfl, fun j hj => by omega, bl_n (HB.out _) _⟩
    case round =>
      obtain ⟨k, hk, rfl, hj, hb⟩ := hrel
      have HJ : Hid _ := And.intro hj hb
      clear hj
      by_cases h : k < N
      · obtain ⟨b, off, rfl, hc⟩ := HRx.out wr hb k h
        have hsz := HS.out k h
        clear hb
        obtain ⟨x, hx⟩ : ∃ z, data.getD k em = z := ⟨_, rfl⟩
        rw [hx] at hc hsz
        have HX : Hid _ := hx
        clear hx
        obtain ⟨r, hr⟩ : ∃ r, ra x = r := ⟨_, rfl⟩
        have HRa : Hid _ := hr
        clear hr
        go_wp2_with fail
        refine (Right_is x r aF aZ _ (HE.out.below HJ.out.2) (by omega) HRa.out).mono ?_
        rintro e w1 ⟨rfl, h1⟩
        have H1 : Hid _ := HJ.out.2.trans (h1.mono HJ.out.2.size)
        clear h1 hc
        cases r with
        | true =>
          go_wp2
          go_roundw
          case rel =>
            refine ⟨k + 1, by omega, by go_num, fun j hj => ?_, H1.out⟩
            by_cases e : j = k
            · rw [e, HX.out]; exact HRa.out
            · exact HJ.out.1 j (by omega)
          case measure => simp [intOf]; omega
        | false =>
          have HF : Hid (al = false) := HNo.out k h (by rw [HX.out]; exact HRa.out)
          go_wp2
          go_ret
          exact ⟨by simp [HF.out], H1.out⟩
      · have HT : Hid (al = true) := HM.out (fun i hi => HJ.out.1 i (by omega))
        clear hb
        go_wp2
        go_ret
        exact ⟨by simp [HT.out, HEr.out], HJ.out.2⟩
end Go.Proofs.YtadgnafafdfioaaGreatDoor.Gr
